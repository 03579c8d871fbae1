/- TParB, TCopy, TAppN, TLentA, TSame, PlainV, TPr, WalkDg. -/
import Derived.Test.YtlggnpohhahdlaaGreatDoorQ23
import Derived.Laws.AppendOwn
import Derived.Laws.AppendOwnNone
import Derived.BigFrame
import Derived.Deep.LoopGhost
import Derived.Deep.MidRow
import Derived.Lib.ItoaNum
import Derived.Lib.ItoaLen
import Derived.Lib.Slices
import Derived.Laws.IdiomStrings
set_option maxHeartbeats 8000000
set_option maxRecDepth 100000
namespace Go.Proofs.YtlggnpohhahdlaaGreatDoor
open Go.RowKit Go.Shelf
set_option linter.unusedVariables false
def prsT (en:Int) (ts:List Wlx.TV):List Wt.Nd ⊕ (Int × Int):=match pall (lv en (10 * ts.length+9) 0) en ts with
 | .inr e=>.inr e
 | .inl (row,_)=>if Wt.check row=0 then .inl row else .inr (Wt.check row,0)
def prsR (l:List UInt8):List Wt.Nd ⊕ (Int × Int):=match scanAll l with
 | .inr (c,p)=>.inr ((c:Int),(p:Int))
 | .inl ts=>prsT (l.length:Int) (ts.map Wlx.tv)
def OwnN (w:World) (B:Nat) (v:Value) (row:List Wt.Nd):Prop:=w.ownsRow B 45 20 v row.length (ndRow row)
def PaPost (B:Nat) (r:List Wt.Nd ⊕ (Int × Int)) (e:Ending) (w:World):Prop:=match r with
 | .inl row=>∃ v,e=.returned (.tuple #[v,.int .i64 0,.int .i64 0])∧OwnN w B v row
 | .inr (c,p)=>e=.returned (.tuple #[.slice none 0 0,.int .i64 c,.int .i64 p])
theorem nd20_length (x:Wt.Nd):(nd20 x).length=20:=rfl
theorem ndRow_get (l:List Wt.Nd):∀ (i:Nat) (h:i<l.length) (j:Nat),j<20→(ndRow l)[i * 20+j]? = (nd20 (l[i]))[j]?:=by
 induction l with
 | nil=>intro i h;exact absurd h (Nat.not_lt_zero _)
 | cons x r ih =>
  intro i h j hj;have e:ndRow (x::r)=nd20 x++ndRow r:=by simp [ndRow]
  rw [e];cases i with
  | zero=>rw [List.getElem?_append_left (by rw [nd20_length];omega)];simp
  | succ i =>
   rw [List.getElem?_append_right (by rw [nd20_length];omega),nd20_length,show (i+1) * 20+j - 20=i * 20+j by omega];rw [ih i (by simpa using h) j hj];simp
theorem ndRow_length (l:List Wt.Nd):(ndRow l).length=l.length * 20:=by
 induction l with
 | nil=>rfl
 | cons x r ih =>
  have e:ndRow (x::r)=nd20 x++ndRow r:=by simp [ndRow]
  rw [e,List.length_append,ih,nd20_length,List.length_cons];omega
theorem OwnN.form {w:World} {B:Nat} {v:Value} {row:List Wt.Nd} (h:OwnN w B v row):∃ av cap,v=.slice av row.length cap∧RdN w av row:=by
 rcases h.2 with ⟨rfl,h0⟩ | ⟨g,cap,cur,rfl,hr⟩
 ·exact ⟨none,0,by rw [h0],fun i hi=>by omega⟩
 ·refine ⟨_,cap,rfl,fun i hi=>⟨g,0,rfl,fun j u hu=>?_⟩⟩;have hj:j<20:=by
   rcases Nat.lt_or_ge j 20 with h1 | h1
   ·exact h1
   ·rw [List.getElem?_eq_none (by rw [nd20_length];exact h1)] at hu;cases hu
  rw [Nat.zero_add,World.ownsRow.cellAt h _ (by omega),ndRow_get row i hi j hj];exact hu
theorem OwnN.rd {w:World} {B n cap:Nat} {av:Option Addr} {row:List Wt.Nd} (h:OwnN w B (.slice av n cap) row):RdN w av row:=by
 obtain ⟨av',cap',e,hr⟩:=h.form;simp only [Value.slice.injEq] at e;rw [e.1];exact hr
theorem OwnN.below {w w':World} {B:Nat} {v:Value} {row:List Wt.Nd} (h:OwnN w B v row) (hb:Below w.heap.size w w'):OwnN w' B v row :=
 h.kept (row:=none) ⟨hb.os,hb.tape,hb.output,hb.size,fun k hk _=>hb.block k hk⟩ (by cases v.ownBlock <;> simp)
theorem res3 (W:World) (tm:Array Value) (bl bc ba:Nat) (v:Value) (c p:Int) (hv:v.oneCell'=true) (h2:tm.getD 2 undef=.pointer (some ⟨bl,0,none⟩)) (h3:tm.getD 3 undef=.pointer (some ⟨bc,0,none⟩)) (h4:tm.getD 4 undef=.pointer (some ⟨ba,0,none⟩))
  (hl:AtL W bl [v]) (hc:AtL W bc [.int .i64 c]) (ha:AtL W ba [.int .i64 p]):(results Tryz.f7 tm).run Tryz.prog W=.ok (.tuple #[v,.int .i64 c,.int .i64 p]) W:=by
 have l0:=hl.2.1 0 _ rfl;have c0:=hc.2.1 0 _ rfl;have a0:=ha.2.1 0 _ rfl;have h2':tm[2]?.getD undef=.pointer (some ⟨bl,0,none⟩):=by rw [←h2];simp
 have h3':tm[3]?.getD undef=.pointer (some ⟨bc,0,none⟩):=by rw [←h3];simp
 have h4':tm[4]?.getD undef=.pointer (some ⟨ba,0,none⟩):=by rw [←h4];simp
 simp [results,Tryz.results7,go_sem,h2',h3',h4',l0,c0,a0]
theorem parse_err (b:ByteArray) (w:World) (hE:Env w) (hs:b.size≤9223372036854775807) (c p:Nat) (hc:c ≠ 0) (hr:scanAll b.data.toList=.inr (c,p)):Calls Tryz.prog 7 #[.string b] w fun e w'=>e=.returned (.tuple #[.slice none 0 0,.int .i64 c,.int .i64 p])∧Below w.heap.size w w':=by
 have S:=fun w hm=>scan_any b w hm hs
 rw [hr] at S;simp only [ScanPost] at S;have hE3:=((hE.below (ball (Below.refl _ w) (.cells #[.slice none 0 0] 22))).below (ball (Below.refl _ _) (.cells #[.int .i64 0] 23))).below (ball (Below.refl _ _) (.cells #[.int .i64 0] 3));have hB0:=ball (ball (ball (Below.refl _ w) (.cells #[.slice none 0 0] 22)) (.cells #[.int .i64 0] 23)) (.cells #[.int .i64 0] 3);have hmf:∀ (fn:Fn) (first cap:Array Value) (w:World),(Instr.makeFunc fn first cap).run Tryz.prog w=.ok (.func fn first cap) w:=fun _ _ _ _=>rfl
 have pl0:=((AtL.new0 w 22 [.slice none 0 0]).alloc (.cells #[.int .i64 0] 23)).alloc (.cells #[.int .i64 0] 3);have pc0:=(AtL.new1 w (.cells #[.slice none 0 0] 22) 23 [.int .i64 0]).alloc (.cells #[.int .i64 0] 3);have pa0:AtL (((w.alloc (.cells #[.slice none 0 0] 22)).alloc (.cells #[.int .i64 0] 23)).alloc (.cells #[.int .i64 0] 3)) (w.heap.size+1+1) [.int .i64 0]:=AtL.new _ 3 (by simp only [World.size_alloc]) _;generalize hW0:((w.alloc (.cells #[.slice none 0 0] 22)).alloc (.cells #[.int .i64 0] 23)).alloc (.cells #[.int .i64 0] 3)=W0 at hE3 hB0 pl0 pc0 pa0;have hci:((c:Int) != 0)=true:=by simp;omega
 go_enter_defers Tryz.func7,Tryz.ntmps7
 go_wp2_with fail
 refine (S _ hE3.2.2.1).mono ?_;rintro e w1 ⟨rfl,hb⟩;have pl1:=pl0.below hb;have pc1:=pc0.below hb;have pa1:=pa0.below hb;have hB1:=below_end hB0 hb;clear hb hW0 pl0 pc0 pa0 hB0 hE3 S;have l1:=pl1.2.1 0 _ rfl;have c1:=pc1.2.1 0 _ rfl;have a1:=pa1.2.1 0 _ rfl;have fl1:=pl1.2.2 0 (by simp);have fc1:=pc1.2.2 0 (by simp);have fa1:=pa1.2.2 0 (by simp);go_wp2;go_region
 go_wp2;have pl2:=(AtL.far (AtL.far ((AtL.far (AtL.far (pl1) (j:=w.heap.size+1) (by omega) 0 (.int .i64 c)) (j:=w.heap.size+1+1) (by omega) 0 (.int .i64 p)).set 0 (.slice none 0 0)) (j:=w.heap.size+1) (by omega) 0 (.int .i64 c)) (j:=w.heap.size+1+1) (by omega) 0 (.int .i64 p)).drew;have pc2:=(AtL.far ((AtL.far (AtL.far ((pc1).set 0 (.int .i64 c)) (j:=w.heap.size+1+1) (by omega) 0 (.int .i64 p)) (j:=w.heap.size) (by omega) 0 (.slice none 0 0)).set 0 (.int .i64 c)) (j:=w.heap.size+1+1) (by omega) 0 (.int .i64 p)).drew;have pa2:=((AtL.far (AtL.far ((AtL.far (pa1) (j:=w.heap.size+1) (by omega) 0 (.int .i64 c)).set 0 (.int .i64 p)) (j:=w.heap.size) (by omega) 0 (.slice none 0 0)) (j:=w.heap.size+1) (by omega) 0 (.int .i64 c)).set 0 (.int .i64 p)).drew;have hB2:=((((((hB1).setCell (p:=⟨w.heap.size+1,0,none⟩) (show w.heap.size≤w.heap.size+1 by omega) (.int .i64 c)).setCell (p:=⟨w.heap.size+1+1,0,none⟩) (show w.heap.size≤w.heap.size+1+1 by omega) (.int .i64 p)).setCell (p:=⟨w.heap.size,0,none⟩) (show w.heap.size≤w.heap.size by omega) (.slice none 0 0)).setCell (p:=⟨w.heap.size+1,0,none⟩) (show w.heap.size≤w.heap.size+1 by omega) (.int .i64 c)).setCell (p:=⟨w.heap.size+1+1,0,none⟩) (show w.heap.size≤w.heap.size+1+1 by omega) (.int .i64 p)).drew;generalize ((((((w1).setCell ⟨w.heap.size+1,0,none⟩ (.int .i64 c)).setCell ⟨w.heap.size+1+1,0,none⟩ (.int .i64 p)).setCell ⟨w.heap.size,0,none⟩ (.slice none 0 0)).setCell ⟨w.heap.size+1,0,none⟩ (.int .i64 c)).setCell ⟨w.heap.size+1+1,0,none⟩ (.int .i64 p)).drew=W2 at *
 simp [bodyPostD,Leaves];exact ⟨_,res3 _ _ _ _ _ _ _ _ rfl rfl rfl rfl pl2 pc2 pa2,rfl,hB2⟩
theorem PSt.new {W:World} {kp B cap:Nat} {av:Option Addr} {ts:List Wlx.Tok} {en:Int} (hO:OwnT W B (.slice av ts.length cap) ts) (hk:kp=W.heap.size):PSt (W.alloc (.cells #[.slice av ts.length cap,.int .i64 en] 53)) kp (ts.map Wlx.tv) en:=by
 subst hk;have hv:=OwnV.of hO;have hR:=RdV.own hv;have hcap:ts.length≤cap:=by
  rcases hO.2 with ⟨e,h0⟩ | ⟨g,cap',cur,e,hg,hc,h1,_⟩
  ·omega
  ·simp only [Value.slice.injEq] at e;omega
 refine ⟨av,cap,by rw [List.length_map];exact hcap,by rw [List.length_map];exact AtL.new0 W 53 [.slice av ts.length cap,.int .i64 en],fun i hi=>?_⟩;obtain ⟨g,e,hlt,c0,c1,c2⟩:=hR i hi;have hb:=ball (Below.refl _ W) (.cells #[.slice av ts.length cap,.int .i64 en] 53);exact ⟨g,0,e,hlt,by rw [Nat.zero_add];exact cell_below hb c0,by rw [Nat.zero_add];exact cell_below hb c1,by rw [Nat.zero_add];exact cell_below hb c2⟩
theorem parse_toks (b:ByteArray) (w:World) (hE:Env w) (hs:b.size≤9223372036854775807) (ts:List Wlx.Tok) (hk8:8≤w.heap.size) (hr:scanAll b.data.toList=.inl ts):Calls Tryz.prog 7 #[.string b] w fun e w'=>PaPost w.heap.size (prsT (b.size:Int) (ts.map Wlx.tv)) e w'∧Below w.heap.size w w':=by
 have S:=fun w hm=>scan_any b w hm hs
 have hbl:b.data.toList.length=b.size:=by rw [Array.length_toList];rfl
 have hT:ts.length≤1024∧∀ t ∈ ts.map Wlx.tv,TokOk t:=by
  unfold scanAll at hr;split at hr
  ·cases hr
  ·rename_i h
   have:=scan_ok _ 0 b.data.toList (Nat.le_refl _) (by omega) ts hr;exact ⟨by omega,this.2⟩
 have hb1024:b.size≤1024:=by
  unfold scanAll at hr;split at hr
  ·cases hr
  ·omega
 obtain ⟨hn,hok⟩:=hT;rw [hr] at S;simp only [ScanPost] at S;clear hr hbl;obtain ⟨R,hR⟩:∃ R,R=prsT (b.size:Int) (ts.map Wlx.tv):=⟨_,rfl⟩
 rw [←hR];have HR:Hid (R=prsT (b.size:Int) (ts.map Wlx.tv)):=hR;clear hR;have hE3:=((hE.below (ball (Below.refl _ w) (.cells #[.slice none 0 0] 22))).below (ball (Below.refl _ _) (.cells #[.int .i64 0] 23))).below (ball (Below.refl _ _) (.cells #[.int .i64 0] 3));have hB0:=ball (ball (ball (Below.refl _ w) (.cells #[.slice none 0 0] 22)) (.cells #[.int .i64 0] 23)) (.cells #[.int .i64 0] 3);have hmf:∀ (fn:Fn) (first cap:Array Value) (w:World),(Instr.makeFunc fn first cap).run Tryz.prog w=.ok (.func fn first cap) w:=fun _ _ _ _=>rfl
 have pl0:=((AtL.new0 w 22 [.slice none 0 0]).alloc (.cells #[.int .i64 0] 23)).alloc (.cells #[.int .i64 0] 3);have pc0:=(AtL.new1 w (.cells #[.slice none 0 0] 22) 23 [.int .i64 0]).alloc (.cells #[.int .i64 0] 3);have pa0:AtL (((w.alloc (.cells #[.slice none 0 0] 22)).alloc (.cells #[.int .i64 0] 23)).alloc (.cells #[.int .i64 0] 3)) (w.heap.size+1+1) [.int .i64 0]:=AtL.new _ 3 (by simp only [World.size_alloc]) _;generalize hW0:((w.alloc (.cells #[.slice none 0 0] 22)).alloc (.cells #[.int .i64 0] 23)).alloc (.cells #[.int .i64 0] 3)=W0 at hE3 hB0 pl0 pc0 pa0;have hs0:W0.heap.size=w.heap.size+1+1+1:=by rw [←hW0];simp only [World.size_alloc]
 go_enter_defers Tryz.func7,Tryz.ntmps7
 go_wp2_with fail
 refine (S _ hE3.2.2.1).mono ?_;rintro e w1 ⟨⟨v,rfl,hO⟩,hb⟩;have pl1:=pl0.below hb;have pc1:=pc0.below hb;have pa1:=pa0.below hb;have hB1:=below_end hB0 hb;have hs1:=hb.size;clear hb hW0 pl0 pc0 pa0 hB0 hE3 S;have l1:=pl1.2.1 0 _ rfl;have c1:=pc1.2.1 0 _ rfl;have a1:=pa1.2.1 0 _ rfl;have fl1:=pl1.2.2 0 (by simp);have fc1:=pc1.2.2 0 (by simp);have fa1:=pa1.2.2 0 (by simp);obtain ⟨av,cap,hv,-⟩:=(OwnV.of hO).form;rw [List.length_map] at hv;subst hv;have hOl:=hO.lt;rw [hs0] at hOl hs1;have hO2:OwnT ((w1.setCell ⟨w.heap.size+1,0,none⟩ (.int .i64 0)).setCell ⟨w.heap.size+1+1,0,none⟩ (.int .i64 0)) W0.heap.size (.slice av ts.length cap) ts :=
  World.ownsRow.kept (World.ownsRow.kept hO (set_grown w1 (w.heap.size+1) 0 _) (Or.inr (fun e=>by have:=(hOl _ e).1;omega))) (set_grown _ (w.heap.size+1+1) 0 _) (Or.inr (fun e=>by have:=(hOl _ e).1;omega))
 have hP3:=PSt.new (kp:=w1.heap.size) (en:=(b.size:Int)) hO2 (by simp only [World.size_setCell]);have pl3:=AtL.alloc (AtL.far (AtL.far (pl1) (j:=w.heap.size+1) (by omega) 0 (.int .i64 0)) (j:=w.heap.size+1+1) (by omega) 0 (.int .i64 0)) (.cells #[.slice av ts.length cap,.int .i64 (b.size:Int)] 53);have pc3:=AtL.alloc (AtL.far ((pc1).set 0 (.int .i64 0)) (j:=w.heap.size+1+1) (by omega) 0 (.int .i64 0)) (.cells #[.slice av ts.length cap,.int .i64 (b.size:Int)] 53);have pa3:=AtL.alloc ((AtL.far (pa1) (j:=w.heap.size+1) (by omega) 0 (.int .i64 0)).set 0 (.int .i64 0)) (.cells #[.slice av ts.length cap,.int .i64 (b.size:Int)] 53);have hB3:=ball (((hB1).setCell (p:=⟨w.heap.size+1,0,none⟩) (show w.heap.size≤w.heap.size+1 by omega) (.int .i64 0)).setCell (p:=⟨w.heap.size+1+1,0,none⟩) (show w.heap.size≤w.heap.size+1+1 by omega) (.int .i64 0)) (.cells #[.slice av ts.length cap,.int .i64 (b.size:Int)] 53);have hs3:((((w1).setCell ⟨w.heap.size+1,0,none⟩ (.int .i64 0)).setCell ⟨w.heap.size+1+1,0,none⟩ (.int .i64 0)).alloc (.cells #[.slice av ts.length cap,.int .i64 (b.size:Int)] 53)).heap.size=w1.heap.size+1:=by simp only [World.size_alloc,World.size_setCell]
 generalize hW3:(((w1).setCell ⟨w.heap.size+1,0,none⟩ (.int .i64 0)).setCell ⟨w.heap.size+1+1,0,none⟩ (.int .i64 0)).alloc (.cells #[.slice av ts.length cap,.int .i64 (b.size:Int)] 53)=W3 at hP3 pl3 pc3 pa3 hB3 hs3;have hE3:=hE.below hB3;have hlen:(ts.map Wlx.tv).length=ts.length:=List.length_map ..;have AL:=all_any w1.heap.size (b.size:Int) (lv (b.size:Int) (10 * (ts.map Wlx.tv).length+9) 0) (ts.map Wlx.tv).length (formula_lv w1.heap.size (b.size:Int) (by omega) _) (lv_suf _ _ _) (ts.map Wlx.tv) W3 hP3 (Nat.le_refl _) (by omega) hok hE3;have hfit:=fun row r h=>lv_fit (b.size:Int) (10 * (ts.map Wlx.tv).length+9) 0 (ts.map Wlx.tv) row r hok h
 clear hO hO2 hOl hP3 hE3 hok;cases hpa:pall (lv (b.size:Int) (10 * (ts.map Wlx.tv).length+9) 0) (b.size:Int) (ts.map Wlx.tv) with
 | inr q =>
  obtain ⟨c,p⟩:=q;rw [hpa] at AL;simp only [PPost] at AL;go_wp2_with fail
  refine AL.mono ?_;rintro e w4 ⟨rfl,hg⟩;have pl4:=pl3.grown hg (fun e=>by have:=Option.some.inj e;omega);have pc4:=pc3.grown hg (fun e=>by have:=Option.some.inj e;omega);have pa4:=pa3.grown hg (fun e=>by have:=Option.some.inj e;omega);have hB4:Below w.heap.size w w4:=hB3.grown hg (by have:=hB3.size;omega) (fun k e=>by have:=Option.some.inj e;omega);clear hg hW3 pl3 pc3 pa3 hB3 AL pl1 pc1 pa1 hfit;unfold stop;have HR2:Hid (R=.inr (c,p)):=by
   show R=_
   rw [HR.out];unfold prsT;rw [hpa]
  clear HR hpa;go_wp2;refine leaves_cons (f:=21) (args:=#[.pointer (some ⟨w.heap.size,0,none⟩),.pointer (some ⟨w.heap.size+1,0,none⟩),.pointer (some ⟨w.heap.size+1+1,0,none⟩)]) (by simp) (by simp [go_sem]) ?_;refine (catch_panics _ _ _ c p _ _ _ [] _ pl4 pc4 pa4 (by omega) (by omega) (by omega)).mono ?_;rintro e u' w5 ⟨rfl,rfl,pl5,pc5,pa5,hb⟩;have hB5:Below w.heap.size w w5:=hB4.trans (hb _ (Nat.le_refl _) (by omega) (by omega));rw [HR2.out];simp only [PaPost];simp [Leaves,settle];exact ⟨_,res3 _ _ _ _ _ _ _ _ rfl rfl rfl rfl pl5 pc5 pa5,rfl,hB5⟩
 | inl q =>
  obtain ⟨row,rr⟩:=q;have hrow:(∀ x ∈ row,Wt.FitN x)∧row.length≤1024:=by
   unfold pall at hpa;split at hpa
   ·cases hpa
   ·rename_i row' hq
    simp only [Sum.inl.injEq,Prod.mk.injEq] at hpa;have:=hfit _ _ hq;rw [hpa.1] at this;exact ⟨this.1,by have:=this.2;omega⟩
   ·cases hpa
  rw [hpa] at AL;simp only [PPost] at AL;go_wp2_with fail
  refine AL.mono ?_;rintro e w4 ⟨v,rfl,⟨n,x,sl,rfl,hpt⟩,-,hg⟩;have pl4:=pl3.grown hg (fun e=>by have:=Option.some.inj e;omega);have pc4:=pc3.grown hg (fun e=>by have:=Option.some.inj e;omega);have pa4:=pa3.grown hg (fun e=>by have:=Option.some.inj e;omega);have hB4:Below w.heap.size w w4:=hB3.grown hg (by have:=hB3.size;omega) (fun k e=>by have:=Option.some.inj e;omega);have hs4:=hg.size;clear hg hW3 pl3 pc3 pa3 hB3 AL pl1 pc1 pa1 hfit;have RW:=row_any w.heap.size n x sl row (fun b=>W3.heap.size≤b) (.slice none 0 0) [] w4 hpt (World.ownsRow_nil _ _ _ _) (fun b _=>by simp [Value.ownBlock]) hB4.size (by simp only [List.length_nil];omega);clear hpt;rw [List.nil_append] at RW;go_wp2_with fail
  refine RW.mono ?_;rintro e w5 ⟨v5,rfl,ho5,hg5,hob⟩;have pl5:=pl4.grown hg5 (by simp [Value.ownBlock]);have pc5:=pc4.grown hg5 (by simp [Value.ownBlock]);have pa5:=pa4.grown hg5 (by simp [Value.ownBlock]);have hB5:Below w.heap.size w w5:=hB4.grown hg5 hB4.size (fun k e=>by simp [Value.ownBlock] at e);have hs5:=hg5.size;have ho5':OwnN w5 w.heap.size v5 row:=ho5;clear ho5;obtain ⟨av5,cap5,rfl,-⟩:=ho5'.form;have hne:(Value.slice av5 row.length cap5).ownBlock ≠ some w.heap.size:=by
   rcases hob with h | ⟨b,h,h'⟩
   ·rw [h];simp [Value.ownBlock]
   ·rw [h];intro e;have:=Option.some.inj e;omega
  have hne1:(Value.slice av5 row.length cap5).ownBlock ≠ some (w.heap.size+1):=by
   rcases hob with h | ⟨b,h,h'⟩
   ·rw [h];simp [Value.ownBlock]
   ·rw [h];intro e;have:=Option.some.inj e;omega
  have hne2:(Value.slice av5 row.length cap5).ownBlock ≠ some (w.heap.size+1+1):=by
   rcases hob with h | ⟨b,h,h'⟩
   ·rw [h];simp [Value.ownBlock]
   ·rw [h];intro e;have:=Option.some.inj e;omega
  have ho6:OwnN (w5.setCell ⟨w.heap.size,0,none⟩ (.slice av5 row.length cap5)) w.heap.size (.slice av5 row.length cap5) row:=World.ownsRow.kept ho5' (set_grown w5 w.heap.size 0 _) (Or.inr hne);have hrd6:=ho6.rd;clear RW hg5 hob ho5';have l5:=pl5.2.1 0 _ rfl;have c5:=pc5.2.1 0 _ rfl;have a5:=pa5.2.1 0 _ rfl;have fl5:=pl5.2.2 0 (by simp);have fc5:=pc5.2.2 0 (by simp);have fa5:=pa5.2.2 0 (by simp);have pl6:=(pl5).set 0 (.slice av5 row.length cap5);have pc6:=AtL.far (pc5) (j:=w.heap.size) (by omega) 0 (.slice av5 row.length cap5);have pa6:=AtL.far (pa5) (j:=w.heap.size) (by omega) 0 (.slice av5 row.length cap5);have hB6:=(hB5).setCell (p:=⟨w.heap.size,0,none⟩) (show w.heap.size≤w.heap.size by omega) (.slice av5 row.length cap5);have CK:=check_any av5 cap5 row _ (by omega) hrow.1 (hE.below hB6).1 hrd6;go_wp2_with fail
  refine CK.mono ?_;rintro e w7 ⟨rfl,hb⟩;have pl7:=pl6.below hb;have pc7:=pc6.below hb;have pa7:=pa6.below hb;have ho7:=ho6.below hb;have hB7:=below_end hB6 hb;have hs7:=hb.size;simp only [World.size_setCell] at hs7;clear hb CK pl6 pc6 pa6 ho6 hB6 hrd6 pl5 pc5 pa5 hB5 l5 c5 a5 fl5 fc5 fa5 pl4 pc4 pa4 hB4;have HR2:Hid (R=if Wt.check row=0 then .inl row else .inr (Wt.check row,0)):=by
   show R=_
   rw [HR.out];unfold prsT;rw [hpa]
  clear HR hpa;generalize Wt.check row=ck at *;have l7:=pl7.2.1 0 _ rfl;have c7:=pc7.2.1 0 _ rfl;have a7:=pa7.2.1 0 _ rfl;have fl7:=pl7.2.2 0 (by simp);have fc7:=pc7.2.2 0 (by simp);have fa7:=pa7.2.2 0 (by simp);by_cases hck:ck=0
  ·subst hck;rw [if_pos rfl] at HR2;go_wp2;have ho8:OwnN (((((w7).setCell ⟨w.heap.size+1,0,none⟩ (.int .i64 0)).setCell ⟨w.heap.size,0,none⟩ (.slice av5 row.length cap5)).setCell ⟨w.heap.size+1,0,none⟩ (.int .i64 0)).setCell ⟨w.heap.size+1+1,0,none⟩ (.int .i64 0)) w.heap.size (.slice av5 row.length cap5) row:=(World.ownsRow.kept ((World.ownsRow.kept ((World.ownsRow.kept ((World.ownsRow.kept (ho7) (set_grown _ (w.heap.size+1) 0 (.int .i64 0)) (Or.inr hne1))) (set_grown _ (w.heap.size) 0 (.slice av5 row.length cap5)) (Or.inr hne))) (set_grown _ (w.heap.size+1) 0 (.int .i64 0)) (Or.inr hne1))) (set_grown _ (w.heap.size+1+1) 0 (.int .i64 0)) (Or.inr hne2))
   have pl8:=AtL.far (AtL.far ((AtL.far (pl7) (j:=w.heap.size+1) (by omega) 0 (.int .i64 0)).set 0 (.slice av5 row.length cap5)) (j:=w.heap.size+1) (by omega) 0 (.int .i64 0)) (j:=w.heap.size+1+1) (by omega) 0 (.int .i64 0);have pc8:=AtL.far ((AtL.far ((pc7).set 0 (.int .i64 0)) (j:=w.heap.size) (by omega) 0 (.slice av5 row.length cap5)).set 0 (.int .i64 0)) (j:=w.heap.size+1+1) (by omega) 0 (.int .i64 0);have pa8:=(AtL.far (AtL.far (AtL.far (pa7) (j:=w.heap.size+1) (by omega) 0 (.int .i64 0)) (j:=w.heap.size) (by omega) 0 (.slice av5 row.length cap5)) (j:=w.heap.size+1) (by omega) 0 (.int .i64 0)).set 0 (.int .i64 0);have hB8:=((((hB7).setCell (p:=⟨w.heap.size+1,0,none⟩) (show w.heap.size≤w.heap.size+1 by omega) (.int .i64 0)).setCell (p:=⟨w.heap.size,0,none⟩) (show w.heap.size≤w.heap.size by omega) (.slice av5 row.length cap5)).setCell (p:=⟨w.heap.size+1,0,none⟩) (show w.heap.size≤w.heap.size+1 by omega) (.int .i64 0)).setCell (p:=⟨w.heap.size+1+1,0,none⟩) (show w.heap.size≤w.heap.size+1+1 by omega) (.int .i64 0);generalize (((((w7).setCell ⟨w.heap.size+1,0,none⟩ (.int .i64 0)).setCell ⟨w.heap.size,0,none⟩ (.slice av5 row.length cap5)).setCell ⟨w.heap.size+1,0,none⟩ (.int .i64 0)).setCell ⟨w.heap.size+1+1,0,none⟩ (.int .i64 0))=W8 at *;refine leaves_cons (f:=21) (args:=#[.pointer (some ⟨w.heap.size,0,none⟩),.pointer (some ⟨w.heap.size+1,0,none⟩),.pointer (some ⟨w.heap.size+1+1,0,none⟩)]) (by simp) (by simp [go_sem]) ?_
   refine (catch_idles _ _ _ _).mono ?_;rintro e u' w9 ⟨rfl,rfl,hb⟩;have pl9:=pl8.below hb;have pc9:=pc8.below hb;have pa9:=pa8.below hb;have hB9:=below_end hB8 hb;have ho9:=ho8.below hb;rw [HR2.out];simp only [PaPost];simp [Leaves,settle];exact ⟨_,res3 _ _ _ _ _ _ _ _ rfl rfl rfl rfl pl9 pc9 pa9,⟨_,rfl,ho9⟩,hB9⟩
  ·have hci:(ck != 0)=true:=by simp [hck]
   rw [if_neg hck] at HR2;go_wp2;go_region
   go_wp2;have pl8:=(AtL.far (AtL.far ((AtL.far (pl7) (j:=w.heap.size+1) (by omega) 0 (.int .i64 ck)).set 0 (.slice none 0 0)) (j:=w.heap.size+1) (by omega) 0 (.int .i64 ck)) (j:=w.heap.size+1+1) (by omega) 0 (.int .i64 0)).drew;have pc8:=(AtL.far ((AtL.far ((pc7).set 0 (.int .i64 ck)) (j:=w.heap.size) (by omega) 0 (.slice none 0 0)).set 0 (.int .i64 ck)) (j:=w.heap.size+1+1) (by omega) 0 (.int .i64 0)).drew;have pa8:=((AtL.far (AtL.far (AtL.far (pa7) (j:=w.heap.size+1) (by omega) 0 (.int .i64 ck)) (j:=w.heap.size) (by omega) 0 (.slice none 0 0)) (j:=w.heap.size+1) (by omega) 0 (.int .i64 ck)).set 0 (.int .i64 0)).drew;have hB8:=(((((hB7).setCell (p:=⟨w.heap.size+1,0,none⟩) (show w.heap.size≤w.heap.size+1 by omega) (.int .i64 ck)).setCell (p:=⟨w.heap.size,0,none⟩) (show w.heap.size≤w.heap.size by omega) (.slice none 0 0)).setCell (p:=⟨w.heap.size+1,0,none⟩) (show w.heap.size≤w.heap.size+1 by omega) (.int .i64 ck)).setCell (p:=⟨w.heap.size+1+1,0,none⟩) (show w.heap.size≤w.heap.size+1+1 by omega) (.int .i64 0)).drew;generalize (((((w7).setCell ⟨w.heap.size+1,0,none⟩ (.int .i64 ck)).setCell ⟨w.heap.size,0,none⟩ (.slice none 0 0)).setCell ⟨w.heap.size+1,0,none⟩ (.int .i64 ck)).setCell ⟨w.heap.size+1+1,0,none⟩ (.int .i64 0)).drew=W8 at *;refine leaves_cons (f:=21) (args:=#[.pointer (some ⟨w.heap.size,0,none⟩),.pointer (some ⟨w.heap.size+1,0,none⟩),.pointer (some ⟨w.heap.size+1+1,0,none⟩)]) (by simp) (by simp [go_sem]) ?_
   refine (catch_idles _ _ _ _).mono ?_;rintro e u' w9 ⟨rfl,rfl,hb⟩;have pl9:=pl8.below hb;have pc9:=pc8.below hb;have pa9:=pa8.below hb;have hB9:=below_end hB8 hb;rw [HR2.out];simp only [PaPost];simp [Leaves,settle];exact ⟨_,res3 _ _ _ _ _ _ _ _ rfl rfl rfl rfl pl9 pc9 pa9,rfl,hB9⟩
theorem scan_bad_code:∀ (n:Nat) (p:Nat) (l:List UInt8),l.length≤n→∀ c q,Wlx.scan p l=.inr (c,q)→c ≠ 0:=by
 intro n;induction n with
 | zero=>intro p l h c q hs;obtain rfl:=List.eq_nil_of_length_eq_zero (Nat.le_zero.1 h);rw [Wlx.scan_nil] at hs;cases hs
 | succ n ih =>
  intro p l h c q hs;cases l with
  | nil=>rw [Wlx.scan_nil] at hs;cases hs
  | cons b t =>
   rw [Wlx.scan_cons] at hs;simp only [List.length_cons] at h;split at hs
   ·exact ih _ t (by omega) _ _ hs
   split at hs
   ·simp only [Wlx.Res.err,Sum.inr.injEq,Prod.mk.injEq] at hs;have:=hs.1;split at this <;> omega
   rename_i h6
   split at hs
   ·simp only [Wlx.Res.err,Sum.inr.injEq,Prod.mk.injEq] at hs;omega
   have hp:=Wlx.hit_pos h6;generalize Wlx.sz (Wlx.hit (b::t)) (b::t)=m at *;generalize hR:Wlx.scan (p+m) ((b::t).drop m)=R at hs;cases R with
   | inl us=>cases hs
   | inr q' =>
    obtain ⟨c',p'⟩:=q';simp only [Wlx.Res.cons,Sum.inr.injEq,Prod.mk.injEq] at hs;have:=ih (p+m) ((b::t).drop m) (by rw [List.length_drop];simp only [List.length_cons];omega) _ _ hR;rw [←hs.1];exact this
theorem scan_code {l:List UInt8} {c p:Nat} (h:scanAll l=.inr (c,p)):c ≠ 0:=by
 unfold scanAll at h;split at h
 ·simp only [Wlx.Res.err,Sum.inr.injEq,Prod.mk.injEq] at h;omega
 ·exact scan_bad_code _ 0 l (Nat.le_refl _) _ _ h
theorem parse_any (b:ByteArray) (w:World) (hE:Env w) (hs:b.size≤9223372036854775807) (hk8:8≤w.heap.size):Calls Tryz.prog 7 #[.string b] w fun e w'=>PaPost w.heap.size (prsR b.data.toList) e w'∧Below w.heap.size w w':=by
 unfold prsR;cases hr:scanAll b.data.toList with
 | inr q =>
  obtain ⟨c,p⟩:=q;exact (parse_err b w hE hs c p (scan_code hr) hr).mono fun e w' h=>⟨h.1,h.2⟩
 | inl ts =>
  have:=parse_toks b w hE hs ts hk8 hr;have e:b.data.toList.length=b.size:=by rw [Array.length_toList];rfl
  rw [e];exact this
theorem ndRow_all (l:List Wt.Nd):∀ u ∈ ndRow l,u.oneCell'=true:=by
 intro u hu;unfold ndRow at hu;obtain ⟨x,_,hu⟩:=List.mem_flatMap.1 hu;exact nd_one x u hu
theorem ndRow_cat (a b:List Wt.Nd):ndRow (a++b)=ndRow a++ndRow b:=by simp [ndRow]
theorem own_one (w:World) (x:Wt.Nd):OwnN (w.alloc (.cells (nd20 x).toArray 45)) w.heap.size (.slice (some ⟨w.heap.size,0,none⟩) 1 1) [x]:=by
 refine ⟨rfl,.inr ⟨w.heap.size,1,(nd20 x).toArray,rfl,Nat.le_refl _,heap_alloc_new w _,Nat.le_refl _,by unfold maxLen;omega,rfl,?_⟩⟩;simp [ndRow];rfl
def mkN (c:Int):Wt.Nd:=⟨0,Wt.v0,0,⟨#[]⟩,c,Wt.r0,Wt.r0⟩
theorem rd_two (w:World) (x y:Wt.Nd):RdN (w.alloc (.cells (nd20 x++nd20 y).toArray 45)) (some ⟨w.heap.size,0,none⟩) [x,y]:=fun i hi=>by
 have h:=range_new w 45 (nd20 x) (nd20 y);refine ⟨w.heap.size,0,rfl,?_⟩;match i,hi with
 | 0,_=>exact h.1
 | 1,_=>exact h.2
def Lent (w:World) (B:Nat) (v:Value) (L:List Wt.Nd):Prop:=∃ g cap,v=.slice (some ⟨g,0,none⟩) L.length cap∧L.length+2≤cap∧(cap:Int)≤9223372036854775807∧OwnN w B (.slice (some ⟨g,0,none⟩) (L.length+2) cap) (L++[mkN 77,mkN 78])
theorem Lent.below {w w':World} {B:Nat} {v:Value} {L:List Wt.Nd} (h:Lent w B v L) (hb:Below w.heap.size w w'):Lent w' B v L:=by
 obtain ⟨g,cap,e,h1,h2,h3⟩:=h;exact ⟨g,cap,e,h1,h2,h3.below hb⟩
theorem rd_app {w:World} {av:Option Addr} {L M:List Wt.Nd} (h:RdN w av (L++M)):RdN w av L:=fun i hi=>by
 obtain ⟨bb,off,e,hx⟩:=h i (by rw [List.length_append];omega);rw [List.getElem_append_left hi] at hx;exact ⟨bb,off,e,hx⟩
theorem Lent.rd {w:World} {B:Nat} {v:Value} {L:List Wt.Nd} (h:Lent w B v L):∃ av cap,v=.slice av L.length cap∧L.length≤cap∧RdN w av L:=by
 obtain ⟨g,cap,e,h1,h2,h3⟩:=h;exact ⟨_,cap,e,by omega,rd_app h3.rd⟩
open Go.RowKit
theorem neqN_run (x:Wt.Nd) (w:World):(binOp .neq 45 (ndV x) (ndV x)).run Tryz.prog w=.ok (.bool false) w:=by
 have h:=eqN_run x x w;have e:eqN x x=true:=(eqN_iff x x).2 rfl;rw [e] at h;unfold ndV at h ⊢;rw [run_eql_struct] at h;rw [run_neq_struct];revert h
 generalize (Op.equalIn 10000 45 (.agg (nd20 x).toArray) (.agg (nd20 x).toArray)).run Tryz.prog w=r;intro h;cases r <;> simp_all [Result.andThen]
theorem neqN_exec (x:Wt.Nd) (w:World) {a:Operand→Value} {ex ey:Operand} (h1:a ex=.agg (nd20 x).toArray) (h2:a ey=.agg (nd20 x).toArray) {d:Option Nat} {ty:TypeId} {p:String} {af:Array Edge} {g:Option (Nat × Bool)} :
  (execOp a {dst:=d,op:=.binOp BinOp.neq 45 ex ey 45,type:=ty,pos:=p,after:=af,guard:=g}).run Tryz.prog w=.ok (.value (.bool false)) w:=by
 unfold execOp;simp only [h1,h2];have h3:=neqN_run x w;unfold ndV at h3;have h4:(eqGuard .neq 45 ex ey (.agg (nd20 x).toArray) (.agg (nd20 x).toArray)).run Tryz.prog w=.ok () w:=by kernel_rfl
 simp only [Sem.run_bind,h3,h4,Result.andThen_ok,Sem.run_pure]
theorem nsame_wide (av1 av2:Option Addr) (cap1 cap2:Nat) (L:List Wt.Nd) (w:World) (h1:RdN w av1 L) (h2:RdN w av2 L) (hl:True→L.length≤799644820200) :
  Calls Tryz.prog 10 #[.slice av1 L.length cap1,.slice av2 L.length cap2] w fun e w'=>e=.returned (.bool true)∧Below w.heap.size w w':=by
 have H1:Hid (RdN w av1 L):=h1;have H2:Hid (RdN w av2 L):=h2;obtain ⟨n,hn⟩:∃ n,L.length=n:=⟨_,rfl⟩
 rw [hn] at hl ⊢;clear h1 h2;go_enter Tryz.func10,Tryz.ntmps10;go_wp2_with fail
 go_loopg [5] n (fun gk x wr=>∃ i:Nat,x=.int .i64 i∧gk=n - i∧i≤n∧Below w.heap.size w wr)
 case atStart=>exact ⟨0,rfl,rfl,Nat.zero_le _,Below.refl _ _⟩
 case round =>
  obtain ⟨i,rfl,hg,hi,hb⟩:=hrel;by_cases hlt:i<n
  ·have hli:(i:Int)<(n:Int):=by omega
   have hi0:(0:Int)≤(i:Int):=by omega
   have hwi:IntKind.i64.wrap ((i:Int)+1)=(i:Int)+1:=by rw [IntKind.wrap_i64];have:=hl trivial;omega
   obtain ⟨b1,o1,rfl,c1⟩:=RdN.below H1.out hb i (by omega);obtain ⟨b2,o2,rfl,c2⟩:=RdN.below H2.out hb i (by omega);generalize L[i]=x at c1 c2;go_upto_region 6 with fail
   refine wp_region_held_drew (S:=fun W=>W.rangeAt b1 (o1+i * 20) (nd20 x)∧W.rangeAt b2 (o2+i * 20) (nd20 x)) (by kernel_rfl) ⟨c1,c2⟩ (fun hHeld=>?_);refine tkQ 0 {dst:=some 17,op:=.move (.tmp 0),type:=22,pos:= "law.go:22",after:=#[],guard:=none} ?_;try simp only [Act.put,lA,lZ,lS]
   refine tkQ 1 {dst:=some 18,op:=.move (.tmp 5),type:=3,pos:= "law.go:22",after:=#[],guard:=none} ?_;try simp only [Act.put,lA,lZ,lS]
   refine tkQ 2 {dst:=some 19,op:=.indexAddr 22 (.tmp 17) (.tmp 18),type:=0,pos:= "law.go:22",after:=#[⟨0,.data⟩,⟨1,.data⟩],guard:=none} ?_;try simp only [Act.put,lA,lZ,lS]
   refine wpAnyH_take (i:=3) (oi:={dst:=some 20,op:=.load 45 (.tmp 19),type:=45,pos:= "law.go:22",after:=#[⟨2,.data⟩],guard:=none}) (v:=.agg (nd20 x).toArray) rfl (by kernel_rfl) (by kernel_rfl) (by kernel_rfl) (fun _ _ _ h=>h) (yieldsIf_load_mid (by rfl) 45 (.tmp 19) rfl b1 (o1+i * 20) rfl (nd20 x) _ (fun _ h=>h.1) Tryz.underlying45 rfl (by kernel_rfl)) (by assumption) ?_;try simp only [Act.put,lA,lZ,lS]
   refine tkQ 4 {dst:=some 21,op:=.move (.tmp 1),type:=22,pos:= "law.go:22",after:=#[],guard:=none} ?_;try simp only [Act.put,lA,lZ,lS]
   refine tkQ 5 {dst:=some 22,op:=.move (.tmp 5),type:=3,pos:= "law.go:22",after:=#[],guard:=none} ?_;try simp only [Act.put,lA,lZ,lS]
   refine tkQ 6 {dst:=some 23,op:=.indexAddr 22 (.tmp 21) (.tmp 22),type:=0,pos:= "law.go:22",after:=#[⟨4,.data⟩,⟨5,.data⟩],guard:=none} ?_;try simp only [Act.put,lA,lZ,lS]
   refine wpAnyH_take (i:=7) (oi:={dst:=some 24,op:=.load 45 (.tmp 23),type:=45,pos:= "law.go:22",after:=#[⟨6,.data⟩],guard:=none}) (v:=.agg (nd20 x).toArray) rfl (by kernel_rfl) (by kernel_rfl) (by kernel_rfl) (fun _ _ _ h=>h) (yieldsIf_load_mid (by rfl) 45 (.tmp 23) rfl b2 (o2+i * 20) rfl (nd20 x) _ (fun _ h=>h.2) Tryz.underlying45 rfl (by kernel_rfl)) (by assumption) ?_;try simp only [Act.put,lA,lZ,lS]
   refine wpAnyH_take (i:=8) (oi:={dst:=some 25,op:=.binOp BinOp.neq 45 (.tmp 20) (.tmp 24) 45,type:=4,pos:= "law.go:22",after:=#[⟨3,.data⟩,⟨7,.data⟩],guard:=none}) (v:=.bool false) rfl (by kernel_rfl) (by kernel_rfl) (by kernel_rfl) (fun _ _ _ h=>h) (Or.inl ⟨by rfl,fun w _=>neqN_exec x w rfl rfl⟩) (by assumption) ?_;try simp only [Act.put,lA,lZ,lS]
   refine wpAnyH_done (by kernel_rfl) ?_ _;clear hHeld c1 c2;have hbd:=hb.drew;go_wp2_with fail
   go_roundg (n - (i+1))
   case rel=>exact ⟨i+1,by simp,rfl,by omega,hbd⟩
   case measure=>omega
  ·have hli:¬ (i:Int)<(n:Int):=by omega
   go_wp2;go_ret;exact ⟨rfl,hb⟩
theorem nsame_true (av1 av2:Option Addr) (cap1 cap2:Nat) (L:List Wt.Nd) (w:World) (h1:RdN w av1 L) (h2:RdN w av2 L) (hl:L.length≤4000000) :
  Calls Tryz.prog 10 #[.slice av1 L.length cap1,.slice av2 L.length cap2] w fun e w'=>e=.returned (.bool true)∧Below w.heap.size w w':=nsame_wide av1 av2 cap1 cap2 L w h1 h2 (fun _=>by omega)
end Go.Proofs.YtlggnpohhahdlaaGreatDoor
namespace Go.Proofs.YtlggnpohhahdlaaGreatDoor.Wnum
def decs (d:Nat):Nat→Nat→List UInt8
 | 0,_=>[]
 | k+1,r=>if r=0 then [] else UInt8.ofNat (48+r * 10 / d)::decs d k (r * 10 % d)
def fu (d:Nat):Nat→Nat→Nat
 | 0,_=>0
 | k+1,r=>if r=0 then 0 else fu d k (r * 10 % d)+1
theorem decs_zero (d k:Nat):decs d k 0=[]:=by cases k <;> rfl
theorem decs_more {d k r:Nat} (h:r ≠ 0):decs d (k+1) r=UInt8.ofNat (48+r * 10 / d)::decs d k (r * 10 % d):=if_neg h
theorem fu_zero (d k:Nat):fu d k 0=0:=by cases k <;> rfl
theorem fu_more {d k r:Nat} (h:r ≠ 0):fu d (k+1) r=fu d k (r * 10 % d)+1:=if_neg h
theorem ends_step {d k r:Nat} (h:r * 10 ^ (k+1) % d=0):r * 10 % d * 10 ^ k % d=0:=by
 rw [Nat.mod_mul_mod,Nat.mul_assoc,←Nat.pow_succ'];exact h
theorem ends_zero {d r:Nat} (hr:r<d) (h:r * 10 ^ 0 % d=0):r=0:=by
 rw [Nat.pow_zero,Nat.mul_one,Nat.mod_eq_of_lt hr] at h;exact h
theorem fu_stable {d:Nat} (hd:0<d):∀ k r,r<d→r * 10 ^ k % d=0→fu d (k+1) r=fu d k r:=by
 intro k;induction k with
 | zero=>intro r hr h;rw [ends_zero hr h];rfl
 | succ k ih =>
  intro r hr h;by_cases h0:r=0
  ·rw [h0,fu_zero,fu_zero]
  ·rw [fu_more h0,ih _ (Nat.mod_lt _ hd) (ends_step h)];exact (fu_more h0).symm
theorem fu_less {d k r:Nat} (hd:0<d) (hr:r<d) (h0:r ≠ 0) (hk:k+1≤6) (h:r * 10 ^ (k+1) % d=0):fu d 6 (r * 10 % d)<fu d 6 r:=by
 have up:∀ j m x,x<d→x * 10 ^ m % d=0→fu d (m+j) x=fu d m x:=by
  intro j;induction j with
  | zero=>intro m x _ _;rfl
  | succ j ih =>
   intro m x hx hm;rw [show m+(j+1)=(m+j)+1 by omega,fu_stable hd (m+j) x hx (by rw [Nat.pow_add,←Nat.mul_assoc,Nat.mul_mod,hm,Nat.zero_mul,Nat.zero_mod]),ih m x hx hm]
 have e1:=up (6 - (k+1)) (k+1) r hr h;have e2:=up (6 - k) k (r * 10 % d) (Nat.mod_lt _ hd) (ends_step h);rw [show k+1+(6 - (k+1))=6 by omega] at e1;rw [show k+(6 - k)=6 by omega] at e2;rw [e1,e2,fu_more h0];omega
def sgnT (N:Int):List UInt8:=if N<0 then [45] else []
def txt (N:Int) (D:Nat):List UInt8 :=
 sgnT N++(if 1000000 % D ≠ 0 then Lib.decDigits N.natAbs++47::Lib.decDigits D else if N.natAbs % D=0 then Lib.decDigits (N.natAbs / D) else Lib.decDigits (N.natAbs / D)++46::decs D 6 (N.natAbs % D))
theorem txt_frac {N:Int} {D:Nat} (h:1000000 % D ≠ 0):txt N D=sgnT N++(Lib.decDigits N.natAbs++47::Lib.decDigits D):=by unfold txt;rw [if_pos h]
theorem txt_whole {N:Int} {D:Nat} (h:1000000 % D=0) (h':N.natAbs % D=0):txt N D=sgnT N++Lib.decDigits (N.natAbs / D):=by unfold txt;rw [if_neg (by omega),if_pos h']
theorem txt_point {N:Int} {D:Nat} (h:1000000 % D=0) (h':N.natAbs % D ≠ 0):txt N D=sgnT N++(Lib.decDigits (N.natAbs / D)++46::decs D 6 (N.natAbs % D)):=by unfold txt;rw [if_neg (by omega),if_neg h']
theorem itoa_sgn (N:Int):Lib.itoa N=sgnT N++Lib.decDigits N.natAbs:=by
 unfold Lib.itoa sgnT;by_cases h:N<0
 ·rw [if_pos h,if_pos h];rfl
 ·rw [if_neg h,if_neg h,show N.toNat=N.natAbs by omega];rfl
theorem ends_six {d r:Nat} (h:1000000 % d=0):r * 10 ^ 6 % d=0:=by
 rw [show (10:Nat) ^ 6=1000000 by decide,Nat.mul_mod,h,Nat.mul_zero,Nat.zero_mod]
theorem decs_length (d:Nat):∀ k r,(decs d k r).length≤k:=by
 intro k;induction k with
 | zero=>intro r;exact Nat.le_refl _
 | succ k ih =>
  intro r;by_cases h:r=0
  ·rw [h,decs_zero];exact Nat.zero_le _
  ·rw [decs_more h,List.length_cons];have:=ih (r * 10 % d);omega
end Go.Proofs.YtlggnpohhahdlaaGreatDoor.Wnum
namespace Go.Proofs.YtlggnpohhahdlaaGreatDoor
open Go.RowKit Go.Shelf
set_option linter.unusedVariables false
def tgh (x:Wt.Nd):Int:=match Wt.opOf x.op with | some o=>o.2.2 | none=>7
def mrk (x:Wt.Nd):List UInt8:=match Wt.opOf x.op with | some o=>o.2.1 | none=>[]
def litT (v:Wt.Vl):List UInt8 :=
 if v.k=1 then Wnum.txt (Wnum.cN v.n v.d) (Wnum.cD v.n v.d).toNat
 else if v.k=2 then 34::(Wlx.dbl v.t.data.toList++[34])
 else if v.k=3 then (if v.b then [84,82,85,69] else [70,65,76,83,69])
 else fNames.getD v.f.toNat []
def celT (a:Wt.Rf):List UInt8:=if a.s=⟨#[]⟩ then cw a else a.s.data.toList++(33::cw a)
def prA (sub:Int→List Wt.Nd→List UInt8 × List Wt.Nd):Nat→Bool→List Wt.Nd→List UInt8 × List Wt.Nd
 | 0,_,l=>([],l)
 | n+1,first,l=>((if first then [] else [44])++(sub 0 l).1++(prA sub n false (sub 0 l).2).1,(prA sub n false (sub 0 l).2).2)
def prS (sub:Int→List Wt.Nd→List UInt8 × List Wt.Nd) (x:Wt.Nd) (r:List Wt.Nd):List UInt8 × List Wt.Nd :=
 if x.k=1 then (litT x.v,r)
 else if x.k=2 then (celT x.a,r)
 else if x.k=3 then (celT x.a++58::celT x.b,r)
 else (x.nm.data.toList++[40]++(prA sub x.ar.toNat true r).1++[41],(prA sub x.ar.toNat true r).2)
def prN (sub:Int→List Wt.Nd→List UInt8 × List Wt.Nd) (x:Wt.Nd) (r:List Wt.Nd):List UInt8 × List Wt.Nd :=
 if tgh x=7 then prS sub x r
 else if tgh x=5 then (mrk x++(sub 5 r).1,(sub 5 r).2)
 else if tgh x=6 then ((sub 6 r).1++mrk x,(sub 6 r).2)
 else ((sub (tgh x) r).1++mrk x++(sub (tgh x+1) (sub (tgh x) r).2).1,(sub (tgh x+1) (sub (tgh x) r).2).2)
def pr:Nat→Int→List Wt.Nd→List UInt8 × List Wt.Nd
 | 0,_,l=>([],l)
 | _+1,_,[]=>([],[])
 | f+1,least,x::r=>if least≤tgh x then prN (pr f) x r else (40::(prN (pr f) x r).1++[41],(prN (pr f) x r).2)
open Go.RowKit
theorem app_mk (a b:List UInt8):((⟨a.toArray⟩:ByteArray)++(⟨b.toArray⟩:ByteArray))=⟨(a++b).toArray⟩:=by
 apply ByteArray.ext
 rw [ByteArray.data_append];simp
theorem dd_len (n:Nat) (h:n≤9223372036854775807):(Lib.decDigits n).length≤21:=by
 have:=Lib.itoa_length_le (n:Int) (by omega) (by omega);unfold Lib.itoa at this;rw [if_neg (by omega),Int.toNat_natCast] at this;exact this
end Go.Proofs.YtlggnpohhahdlaaGreatDoor
