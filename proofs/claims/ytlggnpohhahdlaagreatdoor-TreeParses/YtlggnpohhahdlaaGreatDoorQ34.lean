/- TQSig. -/
import Derived.Test.YtlggnpohhahdlaaGreatDoorQ33
set_option maxHeartbeats 1600000
set_option maxRecDepth 100000
namespace Go.Proofs.YtlggnpohhahdlaaGreatDoor
open Go.RowKit Go.Shelf
set_option linter.unusedVariables false
def QFn (tn lo kp:Nat) (en:Int) (fn:Nat) (sub:List Wlx.TV→PR) (n:Nat):Prop:=∀ (ts:List Wlx.TV) (w:World),ts.length≤n→(∀ t ∈ ts,TokOk t)→RS tn lo kp en w ts 0 0→Calls Tryz.prog fn #[.pointer (some ⟨kp,0,none⟩)] w fun e w'=>QPost tn lo kp en ts.length (sub ts) w e w'
def QLv (tn lo kp:Nat) (en:Int) (k:Nat) (sub:List Wlx.TV→PR) (n:Nat):Prop:=∀ (ts:List Wlx.TV) (w:World),ts.length≤n→(∀ t ∈ ts,TokOk t)→RS tn lo kp en w ts 0 0→Calls Tryz.prog 25 #[.pointer (some ⟨kp,0,none⟩),.int .i64 (k:Int)] w fun e w'=>QPost tn lo kp en ts.length (sub ts) w e w'
theorem RS.lo {tn lo kp:Nat} {en:Int} {w:World} {ts:List Wlx.TV} {E Bad:Int} (h:RS tn lo kp en w ts E Bad):kp<lo∧lo≤w.heap.size∧ts.length≤1024:=by
 obtain ⟨av,cap,T,a,rfl,h2,h3,h4,h5,h6,h7,h8⟩:=h;exact ⟨h4,h5,by rw [List.length_drop];omega⟩
theorem QPost.val {tn lo kp:Nat} {en:Int} {n:Nat} {r:PR} {w:World} {e:Ending} {w':World} (h:QPost tn lo kp en n r w e w'):∃ v,e=.returned v:=by
 obtain ⟨-,h⟩:=h;cases r with
 | inl q=>obtain ⟨v,e,-⟩:=h;exact ⟨v,e⟩
 | inr q=>obtain ⟨-,v,_,_,e,-⟩:=h;exact ⟨v,e⟩
theorem qpost_of {fn:Nat} {xs:Array Value} {w:World} {P:Ending→World→Prop} {G:Prop} (h:Calls Tryz.prog fn xs w P) (hv:(Calls Tryz.prog fn xs w fun e w'=>(∃ v,e=.returned v)∧P e w')→G) (hp:∀ e w',P e w'→∃ v,e=.returned v):G:=hv (h.mono fun e w' q=>⟨hp e w' q,q⟩)
theorem sgn_cases (ts:List Wlx.TV):(∃ t r,ts=t::r∧mkk ts 0 [45]=true∧tkOp 5 ts=some ((1,[45],5),r)) ∨ (∃ t r,ts=t::r∧mkk ts 0 [45]=false∧mkk ts 0 [43]=true∧tkOp 5 ts=some ((2,[43],5),r)) ∨ (mkk ts 0 [45]=false∧mkk ts 0 [43]=false∧tkOp 5 ts=none):=by
 cases ts with
 | nil=>exact Or.inr (Or.inr ⟨rfl,rfl,rfl⟩)
 | cons t r =>
  have e0:∀ m,mkk (t::r) 0 m=isMk t m:=fun m=>rfl
  simp only [e0];unfold tkOp isMk;by_cases hk:t.k=5
  ·simp only [hk,beq_self_eq_true,Bool.true_and,if_true];by_cases h1:t.t=[45]
   ·rw [h1];exact Or.inl ⟨t,r,rfl,rfl,by rfl⟩
   by_cases h2:t.t=[43]
   ·rw [h2];exact Or.inr (Or.inl ⟨t,r,rfl,rfl,rfl,by rfl⟩)
   ·have g1:(t.t == [45])=false:=by simpa using h1
    have g2:(t.t == [43])=false:=by simpa using h2
    refine Or.inr (Or.inr ⟨g1,g2,?_⟩);have e1:([45] == t.t)=false:=by simpa using fun h=>h1 h.symm
    have e2:([43] == t.t)=false:=by simpa using fun h=>h2 h.symm
    have:Wt.opAs t.t 5=none:=by
     unfold Wt.opAs Wt.opsT;simp [e1,e2]
    rw [this];rfl
  ·have:(t.k == 5)=false:=by simp [hk]
   simp only [if_neg hk,this];exact Or.inr (Or.inr ⟨by simp,by simp,trivial⟩)
theorem qsigned_a (tn lo kp:Nat) (en:Int) (sub5:List Wlx.TV→PR) (n:Nat) (HS:QFn tn lo kp en 42 sub5 n) (t:Wlx.TV) (r:List Wlx.TV) (w:World) (hn:r.length≤n) (hok:∀ x ∈ t::r,TokOk x) (hfit:∀ row r2,sub5 r=.inl (row,r2)→row.length≤1024) (h:RS tn lo kp en w (t::r) 0 0) (hm:mkk (t::r) 0 [45]=true) :
  Calls Tryz.prog 42 #[.pointer (some ⟨kp,0,none⟩)] w fun e w'=>QPost tn lo kp en (t::r).length (match sub5 r with | .inr e=>.inr e | .inl (row,r2)=>.inl (opN 4 1::row,r2)) w e w':=by
 obtain ⟨hkl,hlo,h1024⟩:=h.lo;have M1:=qmark_any tn lo kp en w _ 0 0 0 (by omega) [45] h;rw [hm] at M1;obtain ⟨a,ha,c1,z1,hR,hG⟩:=rs_pass h;have hkw:kp<w.heap.size:=by omega
 have HR:Hid (RS tn lo kp en (w.setCell ⟨kp,1,none⟩ (.int .i64 ((a:Int)+1))) r 0 0):=hR;have HG:Hid (w.grownBy (w.setCell ⟨kp,1,none⟩ (.int .i64 ((a:Int)+1))) (some kp)):=hG;have hrl:r.length≤1023:=by simp only [List.length_cons] at h1024;omega
 have hok2:∀ x ∈ r,TokOk x:=fun x hx=>hok x (List.mem_cons_of_mem _ hx)
 have hln:(t::r).length=r.length+1:=rfl;rw [hln];clear hR hG hm h hln h1024 hok;cases hs:sub5 r with
 | inl q =>
  obtain ⟨row,rest⟩:=q;go_enter Tryz.func42,Tryz.ntmps42;go_wp2_with fail
  refine M1.mono ?_;rintro e w1 ⟨rfl,rfl⟩;clear M1;go_upto_region 8 with fail
  obtain ⟨W,hW⟩:∃ W,w.setCell ⟨kp,1,none⟩ (.int .i64 ((a:Int)+1))=W:=⟨_,rfl⟩
  rw [hW] at HR HG ⊢;have hR:=HR.out;have hG:=HG.out;have hsW:=hG.size;clear hW HR HG c1 z1;go_wp2_with (first
   | ((with_reducible refine wpList_bldO ?_ (.const (.int .i64 4)) (.tmp 27) ?_ 4 1 ?_ ?_ ?_);rfl;rfl;rfl;rfl)
   | ((with_reducible refine wpList_bs1n ?_ (.tmp 28) ?_ (opN 4 1) ?_ ?_);rfl;rfl;rfl)
   | (at_builtin;refine wpList_appG (by rfl) (.tmp 26) (.tmp 29) (by rfl) _ w.heap.size (by simp only [World.size_alloc];omega) _ [] (by rfl) (World.ownsRow_nil _ _ _ _) _ _ [opN 4 1] (by rfl) (own_one W (opN 4 1)) (fun _=>by simp) ?_))
  intro va wa rowa owna hga hra hva;have hGa:w.grownBy wa (some kp):=grown_mix (grown_trans hG (World.grownBy_alloc _ _ _)) hga hra;have hRa:=(hR.row (World.grownBy_alloc W _ none) (by simp)).row hga (fun b e=>Nat.le_trans hlo (hra b e));have hsa:=hGa.size;have S:=HS r wa hn hok2 hRa;rw [hs] at S;clear hga hra hva hR hG HS;go_wp2_with fail
  refine S.mono ?_;rintro e w2 ⟨hg2,vb,rfl,ownb,hRb⟩;have hG2:w.grownBy w2 (some kp):=grown_trans hGa hg2;have hs2:=hg2.size;have own2:=own_grown owna hg2 hkw;clear S owna hGa hg2;have hrw:=hfit row rest hs;clear hfit hs;go_wp2_with (at_builtin;refine wpList_appG (by rfl) (.tmp 33) (.tmp 34) (by rfl) w2 w.heap.size (by omega) va [opN 4 1] (by rfl) own2 vb _ row (by rfl) ownb (fun _=>by simp only [List.length_singleton];omega) ?_)
  intro vc wc rowc ownc hgc hrc _;have hGc:w.grownBy wc (some kp):=grown_mix hG2 hgc hrc;have hRc:=hRb.row hgc (fun b e=>Nat.le_trans hlo (hrc b e));clear own2 ownb hgc hrc;go_wp2;go_ret;exact ⟨hGc,vc,rfl,ownc,hRc⟩
 | inr q =>
  obtain ⟨c,p⟩:=q;go_enter Tryz.func42,Tryz.ntmps42;go_wp2_with fail
  refine M1.mono ?_;rintro e w1 ⟨rfl,rfl⟩;clear M1;go_upto_region 8 with fail
  obtain ⟨W,hW⟩:∃ W,w.setCell ⟨kp,1,none⟩ (.int .i64 ((a:Int)+1))=W:=⟨_,rfl⟩
  rw [hW] at HR HG ⊢;have hR:=HR.out;have hG:=HG.out;have hsW:=hG.size;clear hW HR HG c1 z1;go_wp2_with (first
   | ((with_reducible refine wpList_bldO ?_ (.const (.int .i64 4)) (.tmp 27) ?_ 4 1 ?_ ?_ ?_);rfl;rfl;rfl;rfl)
   | ((with_reducible refine wpList_bs1n ?_ (.tmp 28) ?_ (opN 4 1) ?_ ?_);rfl;rfl;rfl)
   | (at_builtin;refine wpList_appG (by rfl) (.tmp 26) (.tmp 29) (by rfl) _ w.heap.size (by simp only [World.size_alloc];omega) _ [] (by rfl) (World.ownsRow_nil _ _ _ _) _ _ [opN 4 1] (by rfl) (own_one W (opN 4 1)) (fun _=>by simp) ?_))
  intro va wa rowa owna hga hra hva;have hGa:w.grownBy wa (some kp):=grown_mix (grown_trans hG (World.grownBy_alloc _ _ _)) hga hra;have hRa:=(hR.row (World.grownBy_alloc W _ none) (by simp)).row hga (fun b e=>Nat.le_trans hlo (hra b e));have hsa:=hGa.size;have S:=HS r wa hn hok2 hRa;rw [hs] at S;clear hga hra hva hR hG HS;go_wp2_with fail
  refine S.mono ?_;rintro e w2 ⟨hg2,hc,vb,row,ts2,rfl,ownb,hrw,hRb⟩;have hG2:w.grownBy w2 (some kp):=grown_trans hGa hg2;have hs2:=hg2.size;have own2:=own_grown owna hg2 hkw;clear S owna hGa hg2;clear hfit hs;go_wp2_with (at_builtin;refine wpList_appG (by rfl) (.tmp 33) (.tmp 34) (by rfl) w2 w.heap.size (by omega) va [opN 4 1] (by rfl) own2 vb _ row (by rfl) ownb (fun _=>by simp only [List.length_singleton];omega) ?_)
  intro vc wc rowc ownc hgc hrc _;have hGc:w.grownBy wc (some kp):=grown_mix hG2 hgc hrc;have hRc:=hRb.row hgc (fun b e=>Nat.le_trans hlo (hrc b e));clear own2 ownb hgc hrc;go_wp2;go_ret;exact ⟨hGc,hc,vc,_,ts2,rfl,ownc,by simp only [List.length_cons];omega,hRc⟩
theorem qsigned_b (tn lo kp:Nat) (en:Int) (sub5:List Wlx.TV→PR) (n:Nat) (HS:QFn tn lo kp en 42 sub5 n) (t:Wlx.TV) (r:List Wlx.TV) (w:World) (hn:r.length≤n) (hok:∀ x ∈ t::r,TokOk x) (hfit:∀ row r2,sub5 r=.inl (row,r2)→row.length≤1024) (h:RS tn lo kp en w (t::r) 0 0) (hm0:mkk (t::r) 0 [45]=false) (hm:mkk (t::r) 0 [43]=true) :
  Calls Tryz.prog 42 #[.pointer (some ⟨kp,0,none⟩)] w fun e w'=>QPost tn lo kp en (t::r).length (match sub5 r with | .inr e=>.inr e | .inl (row,r2)=>.inl (opN 4 2::row,r2)) w e w':=by
 obtain ⟨hkl,hlo,h1024⟩:=h.lo;have M1:=qmark_any tn lo kp en w _ 0 0 0 (by omega) [45] h;rw [hm0] at M1;have M2:=qmark_any tn lo kp en w _ 0 0 0 (by omega) [43] h;rw [hm] at M2;obtain ⟨a,ha,c1,z1,hR,hG⟩:=rs_pass h;have hkw:kp<w.heap.size:=by omega
 have HR:Hid (RS tn lo kp en (w.setCell ⟨kp,1,none⟩ (.int .i64 ((a:Int)+1))) r 0 0):=hR;have HG:Hid (w.grownBy (w.setCell ⟨kp,1,none⟩ (.int .i64 ((a:Int)+1))) (some kp)):=hG;have hrl:r.length≤1023:=by simp only [List.length_cons] at h1024;omega
 have hok2:∀ x ∈ r,TokOk x:=fun x hx=>hok x (List.mem_cons_of_mem _ hx)
 have hln:(t::r).length=r.length+1:=rfl;rw [hln];clear hR hG hm h hln h1024 hok;cases hs:sub5 r with
 | inl q =>
  obtain ⟨row,rest⟩:=q;go_enter Tryz.func42,Tryz.ntmps42;go_wp2_with fail
  refine M1.mono ?_;rintro e w1 ⟨rfl,rfl⟩;clear M1;go_wp2_with fail
  refine M2.mono ?_;rintro e w1 ⟨rfl,rfl⟩;clear M2;go_upto_region 8 with fail
  obtain ⟨W,hW⟩:∃ W,w.setCell ⟨kp,1,none⟩ (.int .i64 ((a:Int)+1))=W:=⟨_,rfl⟩
  rw [hW] at HR HG ⊢;have hR:=HR.out;have hG:=HG.out;have hsW:=hG.size;clear hW HR HG c1 z1;go_wp2_with (first
   | ((with_reducible refine wpList_bldO ?_ (.const (.int .i64 4)) (.tmp 27) ?_ 4 2 ?_ ?_ ?_);rfl;rfl;rfl;rfl)
   | ((with_reducible refine wpList_bs1n ?_ (.tmp 28) ?_ (opN 4 2) ?_ ?_);rfl;rfl;rfl)
   | (at_builtin;refine wpList_appG (by rfl) (.tmp 26) (.tmp 29) (by rfl) _ w.heap.size (by simp only [World.size_alloc];omega) _ [] (by rfl) (World.ownsRow_nil _ _ _ _) _ _ [opN 4 2] (by rfl) (own_one W (opN 4 2)) (fun _=>by simp) ?_))
  intro va wa rowa owna hga hra hva;have hGa:w.grownBy wa (some kp):=grown_mix (grown_trans hG (World.grownBy_alloc _ _ _)) hga hra;have hRa:=(hR.row (World.grownBy_alloc W _ none) (by simp)).row hga (fun b e=>Nat.le_trans hlo (hra b e));have hsa:=hGa.size;have S:=HS r wa hn hok2 hRa;rw [hs] at S;clear hga hra hva hR hG HS;go_wp2_with fail
  refine S.mono ?_;rintro e w2 ⟨hg2,vb,rfl,ownb,hRb⟩;have hG2:w.grownBy w2 (some kp):=grown_trans hGa hg2;have hs2:=hg2.size;have own2:=own_grown owna hg2 hkw;clear S owna hGa hg2;have hrw:=hfit row rest hs;clear hfit hs;go_wp2_with (at_builtin;refine wpList_appG (by rfl) (.tmp 33) (.tmp 34) (by rfl) w2 w.heap.size (by omega) va [opN 4 2] (by rfl) own2 vb _ row (by rfl) ownb (fun _=>by simp only [List.length_singleton];omega) ?_)
  intro vc wc rowc ownc hgc hrc _;have hGc:w.grownBy wc (some kp):=grown_mix hG2 hgc hrc;have hRc:=hRb.row hgc (fun b e=>Nat.le_trans hlo (hrc b e));clear own2 ownb hgc hrc;go_wp2;go_ret;exact ⟨hGc,vc,rfl,ownc,hRc⟩
 | inr q =>
  obtain ⟨c,p⟩:=q;go_enter Tryz.func42,Tryz.ntmps42;go_wp2_with fail
  refine M1.mono ?_;rintro e w1 ⟨rfl,rfl⟩;clear M1;go_wp2_with fail
  refine M2.mono ?_;rintro e w1 ⟨rfl,rfl⟩;clear M2;go_upto_region 8 with fail
  obtain ⟨W,hW⟩:∃ W,w.setCell ⟨kp,1,none⟩ (.int .i64 ((a:Int)+1))=W:=⟨_,rfl⟩
  rw [hW] at HR HG ⊢;have hR:=HR.out;have hG:=HG.out;have hsW:=hG.size;clear hW HR HG c1 z1;go_wp2_with (first
   | ((with_reducible refine wpList_bldO ?_ (.const (.int .i64 4)) (.tmp 27) ?_ 4 2 ?_ ?_ ?_);rfl;rfl;rfl;rfl)
   | ((with_reducible refine wpList_bs1n ?_ (.tmp 28) ?_ (opN 4 2) ?_ ?_);rfl;rfl;rfl)
   | (at_builtin;refine wpList_appG (by rfl) (.tmp 26) (.tmp 29) (by rfl) _ w.heap.size (by simp only [World.size_alloc];omega) _ [] (by rfl) (World.ownsRow_nil _ _ _ _) _ _ [opN 4 2] (by rfl) (own_one W (opN 4 2)) (fun _=>by simp) ?_))
  intro va wa rowa owna hga hra hva;have hGa:w.grownBy wa (some kp):=grown_mix (grown_trans hG (World.grownBy_alloc _ _ _)) hga hra;have hRa:=(hR.row (World.grownBy_alloc W _ none) (by simp)).row hga (fun b e=>Nat.le_trans hlo (hra b e));have hsa:=hGa.size;have S:=HS r wa hn hok2 hRa;rw [hs] at S;clear hga hra hva hR hG HS;go_wp2_with fail
  refine S.mono ?_;rintro e w2 ⟨hg2,hc,vb,row,ts2,rfl,ownb,hrw,hRb⟩;have hG2:w.grownBy w2 (some kp):=grown_trans hGa hg2;have hs2:=hg2.size;have own2:=own_grown owna hg2 hkw;clear S owna hGa hg2;clear hfit hs;go_wp2_with (at_builtin;refine wpList_appG (by rfl) (.tmp 33) (.tmp 34) (by rfl) w2 w.heap.size (by omega) va [opN 4 2] (by rfl) own2 vb _ row (by rfl) ownb (fun _=>by simp only [List.length_singleton];omega) ?_)
  intro vc wc rowc ownc hgc hrc _;have hGc:w.grownBy wc (some kp):=grown_mix hG2 hgc hrc;have hRc:=hRb.row hgc (fun b e=>Nat.le_trans hlo (hrc b e));clear own2 ownb hgc hrc;go_wp2;go_ret;exact ⟨hGc,hc,vc,_,ts2,rfl,ownc,by simp only [List.length_cons];omega,hRc⟩
theorem qsigned_c (tn lo kp:Nat) (en:Int) (sub6:List Wlx.TV→PR) (n:Nat) (HP:QFn tn lo kp en 70 sub6 n) (ts:List Wlx.TV) (w:World) (hn:ts.length≤n) (hok:∀ x ∈ ts,TokOk x) (h:RS tn lo kp en w ts 0 0) (hm0:mkk ts 0 [45]=false) (hm:mkk ts 0 [43]=false) :
  Calls Tryz.prog 42 #[.pointer (some ⟨kp,0,none⟩)] w fun e w'=>QPost tn lo kp en ts.length (sub6 ts) w e w':=by
 have M1:=qmark_any tn lo kp en w _ 0 0 0 (by omega) [45] h;rw [hm0] at M1;have M2:=qmark_any tn lo kp en w _ 0 0 0 (by omega) [43] h;rw [hm] at M2;have S:=HP ts w hn hok h;clear hm hm0 h;refine qpost_of S (fun S=>?_) (fun e w' q=>q.val);go_enter Tryz.func42,Tryz.ntmps42;go_wp2_with fail
 refine M1.mono ?_;rintro e w1 ⟨rfl,rfl⟩;clear M1;go_wp2_with fail
 refine M2.mono ?_;rintro e w1 ⟨rfl,rfl⟩;clear M2;go_wp2_with fail
 refine S.mono ?_;rintro e w2 ⟨⟨v,rfl⟩,hQ⟩;go_wp2;go_ret;exact hQ
theorem qsigned_any (tn lo kp:Nat) (en:Int) (sub5 sub6:List Wlx.TV→PR) (n:Nat) (HS:QFn tn lo kp en 42 sub5 n) (HP:QFn tn lo kp en 70 sub6 (n+1)) (hfit:∀ ts row r2,(∀ t ∈ ts,TokOk t)→sub5 ts=.inl (row,r2)→Fits ts.length row r2):QFn tn lo kp en 42 (psg sub5 sub6) (n+1):=by
 intro ts w hn hok h;rcases sgn_cases ts with ⟨t,r,rfl,hm,ht⟩ | ⟨t,r,rfl,hm0,hm,ht⟩ | ⟨hm0,hm,ht⟩
 ·have hl:=h.lo.2.2;have:=qsigned_a tn lo kp en sub5 n HS t r w (by simp only [List.length_cons] at hn;omega) hok (fun row r2 e=>by have:=(hfit r row r2 (fun x hx=>hok x (List.mem_cons_of_mem _ hx)) e).2;simp only [List.length_cons] at hl;omega) h hm;unfold psg;rw [ht];exact this
 ·have hl:=h.lo.2.2;have:=qsigned_b tn lo kp en sub5 n HS t r w (by simp only [List.length_cons] at hn;omega) hok (fun row r2 e=>by have:=(hfit r row r2 (fun x hx=>hok x (List.mem_cons_of_mem _ hx)) e).2;simp only [List.length_cons] at hl;omega) h hm0 hm;unfold psg;rw [ht];exact this
 ·have:=qsigned_c tn lo kp en sub6 (n+1) HP ts w hn hok h hm0 hm;unfold psg;rw [ht];exact this
end Go.Proofs.YtlggnpohhahdlaaGreatDoor
