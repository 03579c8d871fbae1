/- TQWordB, TQCall. -/
import Derived.Test.YtlggnpohhahdlaaGreatDoorQ38
set_option maxHeartbeats 3200000
set_option maxRecDepth 100000
namespace Go.Proofs.YtlggnpohhahdlaaGreatDoor
open Go.RowKit Go.Shelf
set_option linter.unusedVariables false
theorem one6q (v:Wt.Vl):(vl6 v).toArray.all (·.oneCell')=true:=by simp [vl6,Value.oneCell']
theorem qleaf_any (v:Wt.Vl) (w:World):Calls Tryz.prog 124 #[.agg (vl6 v).toArray] w fun e w'=>∃ u,e=.returned u∧OwnN w' w.heap.size u [leafN v]∧Below w.heap.size w w':=by
 have pA:AtL (w.alloc (.cells (vl6 v).toArray 41)) w.heap.size (vl6 v):=AtL.new0 w _ _;have hB:=ball (Below.refl _ w) (.cells (vl6 v).toArray 41);have rA:=AtL.range pA;go_enter Tryz.func124,Tryz.ntmps124;go_upto_region 1 with fail
 generalize w.alloc (.cells (vl6 v).toArray 41)=W at *;have hsW:=hB.size;go_wp2_with (first
  | ((with_reducible refine wpList_load_mid (cs:=vl6 v) ?_ 41 (.tmp 1) ?_ (w.heap.size) 0 ?_ _ ?_ Tryz.underlying41 ?_ ?_ ?_);rfl;rfl;rfl;exact rA;rfl;kernel_rfl)
  | ((with_reducible refine wpList_bldV ?_ (.const (.int .i64 1)) (.tmp 5) ?_ v ?_ ?_ ?_);rfl;rfl;rfl;rfl)
  | ((with_reducible refine wpList_bs1n ?_ (.tmp 6) ?_ (leafN v) ?_ ?_);rfl;rfl;rfl)
  | (at_builtin;refine wpList_appG (by rfl) (.tmp 4) (.tmp 7) (by rfl) _ w.heap.size (by simp only [World.size_alloc];omega) _ [] (by rfl) (World.ownsRow_nil _ _ _ _) _ _ [leafN v] (by rfl) (own_one W _) (fun _=>by simp) ?_))
 intro va wa rowa owna hga hra hva;have hBa:Below w.heap.size w wa:=(ball hB _).grown hga (by simp only [World.size_alloc];omega) hra;clear hga hra hva;go_wp2;go_ret;exact ⟨va,rfl,owna,hBa⟩
theorem r2Truth_any (b:Bool) (w:World):Calls Tryz.prog 108 #[.bool b] w fun e w'=>e=.returned (.agg (vl6 (vTruth b)).toArray)∧Below w.heap.size w w':=by
 go_enter Tryz.func108,Tryz.ntmps108;go_wp2;refine bodyPost_ret (v:=.agg (vl6 (vTruth b)).toArray) (by simp [results,Tryz.results108,go_sem,vl6,vTruth]) rfl ⟨rfl,?_⟩;exact by with_reducible repeat (first | exact Below.refl _ _ | refine below_drewN ?_ _ | refine Below.setCell ?_ (by first | (simp;done) | (simp;omega) | omega) _ | refine Below.drew ?_ | refine below_end ?_ (by assumption) | refine ball ?_ _)
theorem rs_pass2 {tn lo kp:Nat} {en:Int} {w:World} {t u:Wlx.TV} {r:List Wlx.TV} (h:RS tn lo kp en w (t::u::r) 0 0):∃ a:Nat,(a:Int)≤1024∧w.cell? ⟨kp,1,none⟩=some (.int .i64 (a:Int))∧w.frozen? ⟨kp,1,none⟩=false∧RS tn lo kp en (w.setCell ⟨kp,1,none⟩ (.int .i64 ((a:Int)+2))) r 0 0∧w.grownBy (w.setCell ⟨kp,1,none⟩ (.int .i64 ((a:Int)+2))) (some kp):=by
 obtain ⟨av,cap,T,a,e,h2,h3,h4,h5,h6,h7,h8⟩:=h;have hl:(T.drop a).length=r.length+2:=by rw [e];rfl
 rw [List.length_drop] at hl;have er:T.drop (a+2)=r:=by rw [←List.drop_drop,e];rfl
 have hg:=set_grown w kp 1 (.int .i64 ((a:Int)+2));refine ⟨a,by omega,h6.2.1 1 _ rfl,h6.2.2 1 (by simp [rs5]),?_,hg⟩;rw [←er];exact rs_set (a:=a+2) (cap:=cap) (E:=0) (Bad:=0) (by omega) h3 h4 h5 h7 h8 hg (h6.set 1 _)
theorem mkk_two {t:Wlx.TV} {r:List Wlx.TV} {m:List UInt8} (h:mkk (t::r) 1 m=true):∃ u r2,r=u::r2:=by
 cases r with
 | nil=>cases h
 | cons u r2=>exact ⟨u,r2,rfl⟩
theorem qword_a (tn lo kp:Nat) (en:Int) (w:World) (t:Wlx.TV) (r:List Wlx.TV) (hok:∀ x ∈ t::r,TokOk x) (h:RS tn lo kp en w (t::r) 0 0) (hm0:mkk (t::r) 1 [40]=true) (hnm:Wt.fnNm ⟨t.t.toArray⟩=false) (RES:PR) (hres:RES=.inr (50,pos (t::r) en)) :
  Calls Tryz.prog 125 #[.pointer (some ⟨kp,0,none⟩),.string ⟨t.t.toArray⟩] w fun e w'=>QPost tn lo kp en (t::r).length RES w e w':=by
 obtain ⟨hkl,hlo,h1024⟩:=h.lo;have hkw:kp<w.heap.size:=by omega
 have HRES:Hid (RES=.inr (50,pos (t::r) en)):=hres;have M1:=qmark_any tn lo kp en w _ 0 0 1 (by omega) [40] h;rw [hm0] at M1;have N:=fnNm_any ⟨t.t.toArray⟩ w (by show t.t.length≤_;have:=(hok t (by simp)).1;omega);rw [hnm] at N;have F:=qfail_0 tn lo kp en 50 w _ h;clear hm0 hres;go_enter Tryz.func125,Tryz.ntmps125;go_wp2_with fail
 refine M1.mono ?_;rintro e w1 ⟨rfl,rfl⟩;go_wp2_with fail
 refine N.mono ?_;rintro e w1 ⟨rfl,rfl⟩;go_wp2_with fail
 refine F.mono ?_;rintro e w2 ⟨rfl,hR2,hg2⟩;go_wp2;go_ret;rw [HRES.out];exact ⟨hg2,by decide,_,[],_,rfl,World.ownsRow_nil _ _ _ _,by simp,hR2⟩
theorem qword_b (tn lo kp:Nat) (en:Int) (w:World) (t:Wlx.TV) (r:List Wlx.TV) (hok:∀ x ∈ t::r,TokOk x) (h:RS tn lo kp en w (t::r) 0 0) (hm0:mkk (t::r) 1 [40]=true) (hnm:Wt.fnNm ⟨t.t.toArray⟩=true) (Q:PR) (HC:Calls Tryz.prog 147 #[.pointer (some ⟨kp,0,none⟩),.string ⟨t.t.toArray⟩] w fun e w'=>QPost tn lo kp en (t::r).length Q w e w') (RES:PR) (hres:RES=Q) :
  Calls Tryz.prog 125 #[.pointer (some ⟨kp,0,none⟩),.string ⟨t.t.toArray⟩] w fun e w'=>QPost tn lo kp en (t::r).length RES w e w':=by
 obtain ⟨hkl,hlo,h1024⟩:=h.lo;have hkw:kp<w.heap.size:=by omega
 have HRES:Hid (RES=Q):=hres;have M1:=qmark_any tn lo kp en w _ 0 0 1 (by omega) [40] h;rw [hm0] at M1;have N:=fnNm_any ⟨t.t.toArray⟩ w (by show t.t.length≤_;have:=(hok t (by simp)).1;omega);rw [hnm] at N;clear hm0 hres;refine qpost_of HC (fun HC=>?_) (fun e w' q=>q.val);go_enter Tryz.func125,Tryz.ntmps125;go_wp2_with fail
 refine M1.mono ?_;rintro e w1 ⟨rfl,rfl⟩;go_wp2_with fail
 refine N.mono ?_;rintro e w1 ⟨rfl,rfl⟩;go_wp2_with fail
 refine HC.mono ?_;rintro e w2 ⟨⟨v,rfl⟩,hQ⟩;go_wp2;go_ret;rw [HRES.out];exact hQ
theorem qword_d (tn lo kp:Nat) (en:Int) (w:World) (t:Wlx.TV) (r:List Wlx.TV) (hok:∀ x ∈ t::r,TokOk x) (h:RS tn lo kp en w (t::r) 0 0) (hm0:mkk (t::r) 1 [40]=false) (hm1:mkk (t::r) 1 [33]=true) (hnm:Wt.shNm ⟨t.t.toArray⟩=false) (RES:PR) (hres:RES=.inr (50,pos (t::r) en)) :
  Calls Tryz.prog 125 #[.pointer (some ⟨kp,0,none⟩),.string ⟨t.t.toArray⟩] w fun e w'=>QPost tn lo kp en (t::r).length RES w e w':=by
 obtain ⟨hkl,hlo,h1024⟩:=h.lo;have hkw:kp<w.heap.size:=by omega
 have HRES:Hid (RES=.inr (50,pos (t::r) en)):=hres;have M1:=qmark_any tn lo kp en w _ 0 0 1 (by omega) [40] h;rw [hm0] at M1;have M2:=qmark_any tn lo kp en w _ 0 0 1 (by omega) [33] h;rw [hm1] at M2;have N:=shNm_any ⟨t.t.toArray⟩ w (by show t.t.length≤_;have:=(hok t (by simp)).1;omega);rw [hnm] at N;have F:=qfail_0 tn lo kp en 50 w _ h;clear hm0 hm1 hres;go_enter Tryz.func125,Tryz.ntmps125;go_wp2_with fail
 refine M1.mono ?_;rintro e w1 ⟨rfl,rfl⟩;go_wp2_with fail
 refine M2.mono ?_;rintro e w1 ⟨rfl,rfl⟩;go_wp2_with fail
 refine N.mono ?_;rintro e w1 ⟨rfl,rfl⟩;go_wp2_with fail
 refine F.mono ?_;rintro e w2 ⟨rfl,hR2,hg2⟩;go_wp2;go_ret;rw [HRES.out];exact ⟨hg2,by decide,_,[],_,rfl,World.ownsRow_nil _ _ _ _,by simp,hR2⟩
theorem qword_s (tn lo kp:Nat) (en:Int) (w:World) (t:Wlx.TV) (r:List Wlx.TV) (hok:∀ x ∈ t::r,TokOk x) (h:RS tn lo kp en w (t::r) 0 0) (hm0:mkk (t::r) 1 [40]=false) (hm1:mkk (t::r) 1 [33]=true) (hnm:Wt.shNm ⟨t.t.toArray⟩=true) (RES:PR) (hres:RES=pcs ⟨t.t.toArray⟩ ((t::r).drop 2) en) :
  Calls Tryz.prog 125 #[.pointer (some ⟨kp,0,none⟩),.string ⟨t.t.toArray⟩] w fun e w'=>QPost tn lo kp en (t::r).length RES w e w':=by
 obtain ⟨hkl,hlo,h1024⟩:=h.lo;have hkw:kp<w.heap.size:=by omega
 have HRES:Hid (RES=pcs ⟨t.t.toArray⟩ ((t::r).drop 2) en):=hres;have M1:=qmark_any tn lo kp en w _ 0 0 1 (by omega) [40] h;rw [hm0] at M1;have M2:=qmark_any tn lo kp en w _ 0 0 1 (by omega) [33] h;rw [hm1] at M2;have N:=shNm_any ⟨t.t.toArray⟩ w (by show t.t.length≤_;have:=(hok t (by simp)).1;omega);rw [hnm] at N;obtain ⟨u,r2,rfl⟩:=mkk_two hm1;obtain ⟨a,ha,c1,z1,hRp,hGp⟩:=rs_pass2 h;have HRW:Hid (RS tn lo kp en (w.setCell ⟨kp,1,none⟩ (.int .i64 ((a:Int)+2))) r2 0 0):=hRp;have HGW:Hid (w.grownBy (w.setCell ⟨kp,1,none⟩ (.int .i64 ((a:Int)+2))) (some kp)):=hGp;have hok1:∀ x ∈ r2,TokOk x:=fun x hx=>hok x (by simp [hx])
 have hd2:(t::u::r2).drop 2=r2:=rfl;rw [hd2] at HRES;obtain ⟨ts1,hts1⟩:∃ ts1,r2=ts1:=⟨_,rfl⟩
 obtain ⟨nl,hnl⟩:∃ nl,(t::u::r2).length=nl:=⟨_,rfl⟩
 rw [hts1] at HRW hok1 HRES;rw [hnl];obtain ⟨tb,htb⟩:∃ tb:ByteArray,(⟨t.t.toArray⟩:ByteArray)=tb:=⟨_,rfl⟩
 rw [htb] at N HRES ⊢;clear hm0 hm1 hres h hts1 hRp hGp hd2 hnm hnl htb;go_enter Tryz.func125,Tryz.ntmps125;go_wp2_with fail
 refine M1.mono ?_;rintro e w1 ⟨rfl,rfl⟩;go_wp2_with fail
 refine M2.mono ?_;rintro e w1 ⟨rfl,rfl⟩;go_wp2_with fail
 refine N.mono ?_;rintro e w1 ⟨rfl,rfl⟩;clear M1 M2 N;go_upto_region 16 with fail
 clear c1 z1;obtain ⟨W,hW⟩:∃ W,w.setCell ⟨kp,1,none⟩ (.int .i64 ((a:Int)+2))=W:=⟨_,rfl⟩
 rw [hW] at HRW HGW ⊢;have hRW:=HRW.out;have hGW:=HGW.out;clear hW HRW HGW;have C1:=qcell_any tn lo kp en ts1 W hok1 hRW;go_wp2_with fail
 refine C1.mono ?_;rintro e w1 ⟨hg1,a1,u1,c1,p1,rfl,hR1,hL1⟩;have hG1:w.grownBy w1 (some kp):=grown_trans hGW hg1;have hs1:=hG1.size;obtain ⟨RA,hRA⟩:∃ RA:Wt.Rf,(⟨tb,a1.r,a1.c,a1.fr,a1.fc⟩:Wt.Rf)=RA:=⟨_,rfl⟩
 have pR0:AtL (w1.alloc (.cells #[.string ⟨#[]⟩,.int .i64 0,.int .i64 0,.bool false,.bool false] 43)) w1.heap.size (rf5 Wt.r0):=AtL.new0 _ _ _;have tR0:(w1.alloc (.cells #[.string ⟨#[]⟩,.int .i64 0,.int .i64 0,.bool false,.bool false] 43)).there w1.heap.size 0 (rf5 a1).toArray.size:=pR0.there;have pR1:AtL ((w1.alloc (.cells #[.string ⟨#[]⟩,.int .i64 0,.int .i64 0,.bool false,.bool false] 43)).setCells w1.heap.size 0 (rf5 a1)) w1.heap.size (rf5 a1):=pR0.setAll rfl;have hb1:Below w1.heap.size w1 ((w1.alloc (.cells #[.string ⟨#[]⟩,.int .i64 0,.int .i64 0,.bool false,.bool false] 43)).setCells w1.heap.size 0 (rf5 a1)):=bset (ball (Below.refl _ w1) _) (Nat.le_refl _) _ 0;clear C1 hg1 pR0 hRW hGW;go_upto_region 17 with ((with_reducible refine wpList_store_mid ?_ 43 (.tmp 8) (.tmp 57) ?_ (w1.heap.size) 0 (rf5 a1).toArray ?_ ?_ ?_ ?_ ?_ ?_);rfl;rfl;rfl;rfl;exact tR0;kernel_rfl;exact one5 _)
 generalize (w1.alloc (.cells #[.string ⟨#[]⟩,.int .i64 0,.int .i64 0,.bool false,.bool false] 43)).setCells w1.heap.size 0 (rf5 a1).toArray.toList=W2 at *;have pR2:AtL (W2.setCell ⟨w1.heap.size,0,none⟩ (.string tb)) w1.heap.size (rf5 RA):=by rw [←hRA];exact pR1.set 0 (.string tb)
 have hb2:=hb1.setCell (p:=⟨w1.heap.size,0,none⟩) (Nat.le_refl _) (.string tb);have x0:=pR1.2.1 0 _ rfl;have f0:=pR1.2.2 0 (by show 0<5;omega);have HRA:Hid (⟨tb,a1.r,a1.c,a1.fr,a1.fc⟩=RA):=hRA;clear tR0 pR1 hb1 hRA;go_upto_region 18 with fail
 clear x0 f0;generalize W2.setCell ⟨w1.heap.size,0,none⟩ (.string tb)=W3 at *;have rR:=AtL.range pR2;have pN0:AtL (W3.alloc (.cells zN0 45)) W3.heap.size (nd20 ⟨0,Wt.v0,0,⟨#[]⟩,0,Wt.r0,Wt.r0⟩):=AtL.new0 _ _ _;have tN0:(W3.alloc (.cells zN0 45)).there W3.heap.size 0 (nd20 (⟨2,Wt.v0,0,⟨#[]⟩,0,RA,Wt.r0⟩:Wt.Nd)).toArray.size:=pN0.there;have pN:AtL ((W3.alloc (.cells zN0 45)).setCells W3.heap.size 0 (nd20 (⟨2,Wt.v0,0,⟨#[]⟩,0,RA,Wt.r0⟩:Wt.Nd))) W3.heap.size (nd20 ⟨2,Wt.v0,0,⟨#[]⟩,0,RA,Wt.r0⟩):=pN0.setAll rfl;have hz3:w1.heap.size≤W3.heap.size:=hb2.size;have hb3:Below w1.heap.size w1 ((W3.alloc (.cells zN0 45)).setCells W3.heap.size 0 (nd20 (⟨2,Wt.v0,0,⟨#[]⟩,0,RA,Wt.r0⟩:Wt.Nd))):=bset (ball hb2 _) hz3 _ 0;clear pN0 pR2 hb2;go_upto_region 19 with (first
  | ((with_reducible refine wpList_load_mid (cs:=rf5 RA) ?_ 43 (.tmp 8) ?_ (w1.heap.size) 0 ?_ _ ?_ Tryz.underlying43 ?_ ?_ ?_);rfl;rfl;rfl;exact rR;rfl;kernel_rfl)
  | ((with_reducible refine wpList_bldA ?_ (.const (.int .i64 2)) (.tmp 60) ?_ 2 RA ?_ ?_ ?_);rfl;rfl;rfl;rfl)
  | ((with_reducible refine wpList_store_mid ?_ 45 (.tmp 9) (.tmp 61) ?_ (W3.heap.size) 0 (nd20 (⟨2,Wt.v0,0,⟨#[]⟩,0,RA,Wt.r0⟩:Wt.Nd)).toArray ?_ ?_ ?_ ?_ ?_ ?_);rfl;rfl;rfl;rfl;exact tN0;kernel_rfl;exact one20 _))
 generalize (W3.alloc (.cells zN0 45)).setCells W3.heap.size 0 (nd20 (⟨2,Wt.v0,0,⟨#[]⟩,0,RA,Wt.r0⟩:Wt.Nd)).toArray.toList=W4 at *;obtain ⟨kn,hkn⟩:∃ kn,W3.heap.size=kn:=⟨_,rfl⟩
 rw [hkn] at pN hz3 ⊢;clear rR tN0 hkn;have hR4:=hR1.below hb3;have hG4:w.grownBy W4 (some kp):=grown_trans hG1 (below_grown hb3 _);have M:=qmark_any tn lo kp en W4 _ c1 p1 0 (by omega) [58] hR4;clear hR1 hG1 hb3;have hsz4:=hG4.size;cases hbm:(decide (c1=0) && mkk u1 0 [58]) with
 | false =>
  rw [hbm] at M;have rN:=AtL.range pN;have HQ:Hid (RES=pcs tb ts1 en):=HRES.out;go_wp2_with fail
  refine M.mono ?_;rintro e w5 ⟨rfl,rfl⟩;clear M;go_wp2_with (first
   | ((with_reducible refine wpList_load_mid (cs:=nd20 (⟨2,Wt.v0,0,⟨#[]⟩,0,RA,Wt.r0⟩:Wt.Nd)) ?_ 45 (.tmp 9) ?_ (kn) 0 ?_ _ ?_ Tryz.underlying45 ?_ ?_ ?_);rfl;rfl;rfl;exact rN;rfl;kernel_rfl)
   | ((with_reducible refine wpList_bs1n ?_ (.tmp 76) ?_ (⟨2,Wt.v0,0,⟨#[]⟩,0,RA,Wt.r0⟩:Wt.Nd) ?_ ?_);rfl;rfl;rfl)
   | (at_builtin;refine wpList_appG (by rfl) (.tmp 75) (.tmp 77) (by rfl) _ w.heap.size (by simp only [World.size_alloc];omega) _ [] (by rfl) (World.ownsRow_nil _ _ _ _) _ _ [(⟨2,Wt.v0,0,⟨#[]⟩,0,RA,Wt.r0⟩:Wt.Nd)] (by rfl) (own_one W4 _) (fun _=>by simp) ?_))
  intro va wa rowa owna hga hra hva;have hGa:w.grownBy wa (some kp):=grown_mix (grown_trans hG4 (World.grownBy_alloc _ _ _)) hga hra;have hRa:=(hR4.row (World.grownBy_alloc W4 _ none) (by simp)).row hga (fun b e=>Nat.le_trans hlo (hra b e));clear hga hra hva hR4 hG4;go_wp2;go_ret;rw [HQ.out];unfold pcs;rcases hL1 with ⟨rfl,rfl,hp1⟩ | ⟨hc1,hp1⟩
  ·have hm:mkk u1 0 [58]=false:=by simpa using hbm
   rw [hp1];simp only;rw [qtk_none hm];simp only;rw [HRA.out];exact ⟨hGa,va,rfl,owna,hRa⟩
  ·rw [hp1];exact ⟨hGa,hc1,va,_,u1,rfl,owna,by simp,hRa⟩
 | true =>
  rw [hbm] at M;simp only [Bool.and_eq_true,decide_eq_true_eq] at hbm;obtain ⟨hc1,hm⟩:=hbm;obtain ⟨t5,r5,hu1,htk⟩:=qtk_some hm;obtain ⟨hpz,hp1⟩:p1=0∧pc ts1 en=.inl (a1,u1):=by
   rcases hL1 with ⟨-,x,y⟩ | ⟨x,-⟩
   ·exact ⟨x,y⟩
   ·exact absurd hc1 x
  clear hL1;rw [hc1,hpz,hu1] at hR4;have hok5:∀ x ∈ r5,TokOk x:=fun x hx=>hok1 x ((pc_suf hp1).subset (by rw [hu1];exact List.mem_cons_of_mem _ hx))
  obtain ⟨a5,ha5,d1,z1,hR5,hG5⟩:=rs_pass hR4;have HR5:Hid (RS tn lo kp en (W4.setCell ⟨kp,1,none⟩ (.int .i64 ((a5:Int)+1))) r5 0 0):=hR5;have HG5:Hid (w.grownBy (W4.setCell ⟨kp,1,none⟩ (.int .i64 ((a5:Int)+1))) (some kp)):=grown_trans hG4 hG5;have pN5:=pN.far (j:=kp) (by omega) 1 (.int .i64 ((a5:Int)+1));have HQ:Hid (RES=pcs tb ts1 en):=HRES.out;clear hR4 hG4 hR5 hG5 pN;go_wp2_with fail
  refine M.mono ?_;rintro e w5 ⟨rfl,rfl⟩;clear M;go_upto_region 21 with fail
  clear d1 z1;generalize W4.setCell ⟨kp,1,none⟩ (.int .i64 ((a5:Int)+1))=W5 at *;have pN6:AtL (W5.setCell ⟨kn,0,none⟩ (.int .i64 3)) kn (nd20 ⟨3,Wt.v0,0,⟨#[]⟩,0,RA,Wt.r0⟩):=pN5.set 0 (.int .i64 3);have hR6:=HR5.out.row (set_grown W5 kn 0 (.int .i64 3)) (fun b e=>by have:=Option.some.inj e;omega);have hG6:w.grownBy (W5.setCell ⟨kn,0,none⟩ (.int .i64 3)) (some kp):=grown_mix HG5.out (set_grown W5 kn 0 (.int .i64 3)) (fun b e=>by have:=Option.some.inj e;omega);have x0:=pN5.2.1 0 _ rfl;have f0:=pN5.2.2 0 (by show 0<20;omega);clear HR5 HG5 pN5;go_upto_region 22 with fail
  clear x0 f0;generalize W5.setCell ⟨kn,0,none⟩ (.int .i64 3)=W6 at *;have C2:=qcell_any tn lo kp en r5 W6 hok5 hR6;go_wp2_with fail
  refine C2.mono ?_;rintro e w7 ⟨hg7,b1,u2,c2,p2,rfl,hR7,hL2⟩;have hG7:w.grownBy w7 (some kp):=grown_trans hG6 hg7;have hs7:=hG7.size;have pN7:=pN6.grown hg7 (fun e=>by have:=Option.some.inj e;omega);have tN7:w7.there kn 15 (rf5 b1).toArray.size:=pN7.thereSub 15 5 (by show 15+5≤20;omega);have pN8:=nd_setB pN7 b1;have hR8:=hR7.row (setAll_grown w7 kn (rf5 b1) 15) (fun b e=>by have:=Option.some.inj e;omega);have hG8:w.grownBy (w7.setCells kn 15 (rf5 b1)) (some kp):=grown_mix hG7 (setAll_grown w7 kn (rf5 b1) 15) (fun b e=>by have:=Option.some.inj e;omega);clear C2 hg7 hR6 hG6 pN6 pN7 hR7 hG7;go_upto_region 23 with ((with_reducible refine wpList_store_mid ?_ 43 (.tmp 74) (.tmp 73) ?_ (kn) 15 (rf5 b1).toArray ?_ ?_ ?_ ?_ ?_ ?_);rfl;rfl;rfl;rfl;exact tN7;kernel_rfl;exact one5 _)
  generalize w7.setCells kn 15 (rf5 b1).toArray.toList=W8 at *;have rN:=AtL.range pN8;have hs8:=hG8.size;clear tN7;go_wp2_with (first
   | ((with_reducible refine wpList_load_mid (cs:=nd20 (⟨3,Wt.v0,0,⟨#[]⟩,0,RA,b1⟩:Wt.Nd)) ?_ 45 (.tmp 9) ?_ (kn) 0 ?_ _ ?_ Tryz.underlying45 ?_ ?_ ?_);rfl;rfl;rfl;exact rN;rfl;kernel_rfl)
   | ((with_reducible refine wpList_bs1n ?_ (.tmp 76) ?_ (⟨3,Wt.v0,0,⟨#[]⟩,0,RA,b1⟩:Wt.Nd) ?_ ?_);rfl;rfl;rfl)
   | (at_builtin;refine wpList_appG (by rfl) (.tmp 75) (.tmp 77) (by rfl) _ w.heap.size (by simp only [World.size_alloc];omega) _ [] (by rfl) (World.ownsRow_nil _ _ _ _) _ _ [(⟨3,Wt.v0,0,⟨#[]⟩,0,RA,b1⟩:Wt.Nd)] (by rfl) (own_one W8 _) (fun _=>by simp) ?_))
  intro va wa rowa owna hga hra hva;have hGa:w.grownBy wa (some kp):=grown_mix (grown_trans hG8 (World.grownBy_alloc _ _ _)) hga hra;have hRa:=(hR8.row (World.grownBy_alloc W8 _ none) (by simp)).row hga (fun b e=>Nat.le_trans hlo (hra b e));clear hga hra hva hR8 hG8;go_wp2;go_ret;rw [HQ.out];unfold pcs;rw [hp1];simp only;rw [htk];simp only;rcases hL2 with ⟨rfl,rfl,hp2⟩ | ⟨hc2,hp2⟩
  ·rw [hp2];simp only;rw [HRA.out];exact ⟨hGa,va,rfl,owna,hRa⟩
  ·rw [hp2];exact ⟨hGa,hc2,va,_,u2,rfl,owna,by simp,hRa⟩
theorem qword_t (tn lo kp:Nat) (en:Int) (w:World) (t:Wlx.TV) (r:List Wlx.TV) (hok:∀ x ∈ t::r,TokOk x) (h:RS tn lo kp en w (t::r) 0 0) (hm0:mkk (t::r) 1 [40]=false) (hm1:mkk (t::r) 1 [33]=false) (ht:t.t=[84,82,85,69]) (RES:PR) (hres:RES=.inl ([leafN (vTruth true)],r)) :
  Calls Tryz.prog 125 #[.pointer (some ⟨kp,0,none⟩),.string ⟨t.t.toArray⟩] w fun e w'=>QPost tn lo kp en (t::r).length RES w e w':=by
 obtain ⟨hkl,hlo,h1024⟩:=h.lo;have hkw:kp<w.heap.size:=by omega
 have HRES:Hid (RES=.inl ([leafN (vTruth true)],r)):=hres;have M1:=qmark_any tn lo kp en w _ 0 0 1 (by omega) [40] h;rw [hm0] at M1;have M2:=qmark_any tn lo kp en w _ 0 0 1 (by omega) [33] h;rw [hm1] at M2;obtain ⟨a,ha,c1,z1,hRp,hGp⟩:=rs_pass h;have HRW:Hid (RS tn lo kp en (w.setCell ⟨kp,1,none⟩ (.int .i64 ((a:Int)+1))) r 0 0):=hRp;have HGW:Hid (w.grownBy (w.setCell ⟨kp,1,none⟩ (.int .i64 ((a:Int)+1))) (some kp)):=hGp;have V:=fun w=>r2Truth_any true w
 have L:=fun w=>qleaf_any (vTruth true) w
 obtain ⟨nl,hnl⟩:∃ nl,(t::r).length=nl:=⟨_,rfl⟩
 rw [hnl,ht];clear hm0 hm1 hres h hRp hGp hnl ht;go_enter Tryz.func125,Tryz.ntmps125;go_wp2_with fail
 refine M1.mono ?_;rintro e w1 ⟨rfl,rfl⟩;go_wp2_with fail
 refine M2.mono ?_;rintro e w1 ⟨rfl,rfl⟩;clear M1 M2;go_upto_region 15 with fail
 clear c1 z1;obtain ⟨W,hW⟩:∃ W,w.setCell ⟨kp,1,none⟩ (.int .i64 ((a:Int)+1))=W:=⟨_,rfl⟩
 rw [hW] at HRW HGW ⊢;have hRW:=HRW.out;have hGW:=HGW.out;have hsW:=hGW.size;clear hW HRW HGW;go_wp2_with fail
 refine (V _).mono ?_;rintro e w2 ⟨rfl,hb2⟩;go_wp2_with fail
 refine (L _).mono ?_;rintro e w3 ⟨u,rfl,own,hb3⟩;have hB3:=below_end hb2 hb3;have hz:=hb2.size;go_wp2;go_ret;rw [HRES.out];exact ⟨grown_trans hGW (below_grown hB3 _),u,rfl,own_ge own (by omega),hRW.below hB3⟩
theorem qword_u (tn lo kp:Nat) (en:Int) (w:World) (t:Wlx.TV) (r:List Wlx.TV) (hok:∀ x ∈ t::r,TokOk x) (h:RS tn lo kp en w (t::r) 0 0) (hm0:mkk (t::r) 1 [40]=false) (hm1:mkk (t::r) 1 [33]=false) (ht:t.t=[70,65,76,83,69]) (RES:PR) (hres:RES=.inl ([leafN (vTruth false)],r)) :
  Calls Tryz.prog 125 #[.pointer (some ⟨kp,0,none⟩),.string ⟨t.t.toArray⟩] w fun e w'=>QPost tn lo kp en (t::r).length RES w e w':=by
 obtain ⟨hkl,hlo,h1024⟩:=h.lo;have hkw:kp<w.heap.size:=by omega
 have HRES:Hid (RES=.inl ([leafN (vTruth false)],r)):=hres;have M1:=qmark_any tn lo kp en w _ 0 0 1 (by omega) [40] h;rw [hm0] at M1;have M2:=qmark_any tn lo kp en w _ 0 0 1 (by omega) [33] h;rw [hm1] at M2;obtain ⟨a,ha,c1,z1,hRp,hGp⟩:=rs_pass h;have HRW:Hid (RS tn lo kp en (w.setCell ⟨kp,1,none⟩ (.int .i64 ((a:Int)+1))) r 0 0):=hRp;have HGW:Hid (w.grownBy (w.setCell ⟨kp,1,none⟩ (.int .i64 ((a:Int)+1))) (some kp)):=hGp;have V:=fun w=>r2Truth_any false w
 have L:=fun w=>qleaf_any (vTruth false) w
 obtain ⟨nl,hnl⟩:∃ nl,(t::r).length=nl:=⟨_,rfl⟩
 rw [hnl,ht];clear hm0 hm1 hres h hRp hGp hnl ht;go_enter Tryz.func125,Tryz.ntmps125;go_wp2_with fail
 refine M1.mono ?_;rintro e w1 ⟨rfl,rfl⟩;go_wp2_with fail
 refine M2.mono ?_;rintro e w1 ⟨rfl,rfl⟩;clear M1 M2;go_upto_region 15 with fail
 clear c1 z1;obtain ⟨W,hW⟩:∃ W,w.setCell ⟨kp,1,none⟩ (.int .i64 ((a:Int)+1))=W:=⟨_,rfl⟩
 rw [hW] at HRW HGW ⊢;have hRW:=HRW.out;have hGW:=HGW.out;have hsW:=hGW.size;clear hW HRW HGW;go_wp2_with fail
 refine (V _).mono ?_;rintro e w2 ⟨rfl,hb2⟩;go_wp2_with fail
 refine (L _).mono ?_;rintro e w3 ⟨u,rfl,own,hb3⟩;have hB3:=below_end hb2 hb3;have hz:=hb2.size;go_wp2;go_ret;rw [HRES.out];exact ⟨grown_trans hGW (below_grown hB3 _),u,rfl,own_ge own (by omega),hRW.below hB3⟩
def fin (nm:List UInt8) (q:(Nat × List Wt.Nd × List Wlx.TV) ⊕ (Int × Int)):PR:=match q with
 | .inr e=>.inr e
 | .inl (c,rows,r)=>.inl (callN ⟨nm.toArray⟩ c::rows,r)
def af (sub:List Wlx.TV→PR) (en:Int) (nm:List UInt8) (c:Nat) (rows:List Wt.Nd) (us:List Wlx.TV):PR:=match sub us with
 | .inr e=>.inr e
 | .inl (row,r)=>fin nm (argl sub en (r.length+1) (c+1) (rows++row) r)
theorem pargs_none {sub:List Wlx.TV→PR} {en:Int} {nm:List UInt8} {ts:List Wlx.TV} (h:mkk ts 0 [41]=false):pargs sub en nm ts=af sub en nm 0 [] ts:=by
 unfold pargs af;rw [qtk_none h];simp only;cases sub ts with
 | inr e=>rfl
 | inl q =>
  obtain ⟨row,r⟩:=q;simp only [List.nil_append,Nat.zero_add];cases argl sub en (r.length+1) 1 row r with
  | inr e=>rfl
  | inl q=>rfl
theorem mk_one {t:Wlx.TV} {m k:List UInt8} (h:isMk t m=true) (hne:(m == k)=false):isMk t k=false:=by
 unfold isMk at h ⊢;simp only [Bool.and_eq_true,beq_iff_eq] at h;rw [h.2,hne,Bool.and_false]
theorem argl_end {sub:List Wlx.TV→PR} {en:Int} {c:Nat} {rows:List Wt.Nd} {ts r:List Wlx.TV} (h:tk ts [41]=some r):argl sub en (ts.length+1) c rows ts=.inl (c,rows,r):=by
 simp only [argl,h]
theorem argl_bad {sub:List Wlx.TV→PR} {en:Int} {c:Nat} {rows:List Wt.Nd} {ts:List Wlx.TV} (h1:mkk ts 0 [41]=false) (h2:mkk ts 0 [44]=false):argl sub en (ts.length+1) c rows ts=.inr (50,pos ts en):=by
 have hm:isMk (hd ts en) [44]=false:=by
  cases ts with
  | nil=>rfl
  | cons t r=>exact h2
 simp only [argl,qtk_none h1,hm];simp [qtk_none h2]
theorem argl_many {sub:List Wlx.TV→PR} {en:Int} {rows:List Wt.Nd} {t:Wlx.TV} {r:List Wlx.TV} (h:isMk t [44]=true):argl sub en ((t::r).length+1) 30 rows (t::r)=.inr (3,pos (t::r) en):=by
 have h1:mkk (t::r) 0 [41]=false:=mk_one h rfl;have hm:isMk (hd (t::r) en) [44]=true:=h;simp only [argl,qtk_none h1,hm];simp
theorem argl_more {sub:List Wlx.TV→PR} (hsuf:∀ ts row r,sub ts=.inl (row,r)→r <:+ ts) {en:Int} {nm:List UInt8} {c:Nat} {rows:List Wt.Nd} {t:Wlx.TV} {r:List Wlx.TV} (h:isMk t [44]=true) (hc:¬ c=30):fin nm (argl sub en ((t::r).length+1) c rows (t::r))=af sub en nm c rows r:=by
 have h1:mkk (t::r) 0 [41]=false:=mk_one h rfl;have h2:tk (t::r) [44]=some r:=by simp [tk,h]
 unfold af;simp only [argl,qtk_none h1,h2];rw [if_neg (fun x=>hc x.1)];cases hs:sub r with
 | inr e=>rfl
 | inl q =>
  obtain ⟨row,r2⟩:=q;have:=(hsuf _ _ _ hs).length_le;simp only;rw [argl_fuel hsuf en (t::r).length (r2.length+1) (c+1) (rows++row) r2 (by simp only [List.length_cons];omega) (by omega)];rfl
theorem qcall_any (tn lo kp:Nat) (en:Int) (sub:List Wlx.TV→PR) (n:Nat) (HL:QLv tn lo kp en 0 sub n) (hsuf:∀ ts row r,sub ts=.inl (row,r)→r <:+ ts) (hfit:∀ ts row r2,(∀ t ∈ ts,TokOk t)→sub ts=.inl (row,r2)→Fits ts.length row r2) (t u:Wlx.TV) (r:List Wlx.TV) (w:World) (hn:r.length≤n) (hok:∀ x ∈ t::u::r,TokOk x) (h:RS tn lo kp en w (t::u::r) 0 0) (nm:List UInt8) (RES:PR) (hres:RES=pargs sub en nm r) :
  Calls Tryz.prog 147 #[.pointer (some ⟨kp,0,none⟩),.string ⟨nm.toArray⟩] w fun e w'=>QPost tn lo kp en (t::u::r).length RES w e w':=by
 obtain ⟨hkl,hlo,h1024⟩:=h.lo;have hkw:kp<w.heap.size:=by omega
 obtain ⟨a,ha,c1,z1,hRp,hGp⟩:=rs_pass2 h;have HRW:Hid (RS tn lo kp en (w.setCell ⟨kp,1,none⟩ (.int .i64 ((a:Int)+2))) r 0 0):=hRp;have HGW:Hid (w.grownBy (w.setCell ⟨kp,1,none⟩ (.int .i64 ((a:Int)+2))) (some kp)):=hGp;have hokr:∀ x ∈ r,TokOk x:=fun x hx=>hok x (by simp [hx])
 have hrl:r.length≤1022:=by simp only [List.length_cons] at h1024;omega
 obtain ⟨nl,hnl⟩:∃ nl,(t::u::r).length=nl:=⟨_,rfl⟩
 rw [hnl];have SL:∀ (ts:List Wlx.TV) (w:World),ts.length≤n→(∀ t ∈ ts,TokOk t)→RS tn lo kp en w ts 0 0→Calls Tryz.prog 25 #[.pointer (some ⟨kp,0,none⟩),.int .i64 0] w fun e w'=>QPost tn lo kp en ts.length (sub ts) w e w':=HL
 clear hRp hGp h hok hnl HL h1024;cases hm:mkk r 0 [41] with
 | true =>
  obtain ⟨t8,r8,hu8,htk8⟩:=qtk_some hm;have HQ0:Hid (RES=.inl ([callN ⟨nm.toArray⟩ 0],r8)):=by show _=_;rw [hres];unfold pargs;rw [htk8]
  clear hres hu8;go_enter Tryz.func147,Tryz.ntmps147;go_upto_region 2 with fail
  clear c1 z1;obtain ⟨W,hW⟩:∃ W,w.setCell ⟨kp,1,none⟩ (.int .i64 ((a:Int)+2))=W:=⟨_,rfl⟩
  rw [hW] at HRW HGW ⊢;have hRW:=HRW.out;have hGW:=HGW.out;have M1:=qmark_any tn lo kp en W _ 0 0 0 (by omega) [41] hRW;rw [hm] at M1;have hownp:OwnN W w.heap.size (.slice none 0 0) []:=World.ownsRow_nil _ _ _ _;have hm9:=hm;clear hW HRW HGW hm;go_wp2_with fail
  refine M1.mono ?_;rintro e w1 ⟨rfl,rfl⟩;clear M1;have ME:=qmark_any tn lo kp en W _ 0 0 0 (by omega) [41] hRW;rw [hm9] at ME;obtain ⟨t9,r9,hu9,htk9⟩:=qtk_some hm9;rw [hu9] at hRW;obtain ⟨a9,ha9,d9,z9,hR9,hG9⟩:=rs_pass hRW;have HR9:Hid (RS tn lo kp en (W.setCell ⟨kp,1,none⟩ (.int .i64 ((a9:Int)+1))) r9 0 0):=hR9;have HG9:Hid (w.grownBy (W.setCell ⟨kp,1,none⟩ (.int .i64 ((a9:Int)+1))) (some kp)):=grown_trans hGW hG9;have HO9:Hid (OwnN (W.setCell ⟨kp,1,none⟩ (.int .i64 ((a9:Int)+1))) w.heap.size (.slice none 0 0) ([])):=own_grown hownp hG9 hkw;have HQ9:Hid (RES=.inl ([callN ⟨nm.toArray⟩ 0]++[],r9)):=by
   show _=_
   rw [HQ0.out];rw [htk8] at htk9;rw [Option.some.inj htk9];rfl
  clear htk8 htk9 HQ0;clear hR9 hG9 hu9;go_wp2_with fail
  refine ME.mono ?_;rintro e w9 ⟨rfl,rfl⟩;clear ME;go_upto_region 15 with fail
  clear d9 z9;obtain ⟨W9,hW9⟩:∃ W9,W.setCell ⟨kp,1,none⟩ (.int .i64 ((a9:Int)+1))=W9:=⟨_,rfl⟩
  rw [hW9] at HR9 HG9 HO9 ⊢;have hR8:=HR9.out;have hG8:=HG9.out;have hO8:=HO9.out;have hs8:=hG8.size;have l8:=hO8.lt;clear hW9 HR9 HG9 HO9;go_wp2_with (first
   | ((with_reducible refine wpList_bldC ?_ (.const (.int .i64 6)) (.tmp 54) (.tmp 55) ?_ ⟨nm.toArray⟩ (0) ?_ ?_ ?_ ?_);rfl;rfl;rfl;rfl;first | rfl | simp)
   | ((with_reducible refine wpList_bs1n ?_ (.tmp 56) ?_ (callN ⟨nm.toArray⟩ (0)) ?_ ?_);rfl;rfl;rfl)
   | (at_builtin;refine wpList_appG (by rfl) (.tmp 53) (.tmp 57) (by rfl) _ W9.heap.size (by simp) _ [] (by rfl) (World.ownsRow_nil _ _ _ _) _ _ [callN ⟨nm.toArray⟩ (0)] (by rfl) (own_one W9 _) (fun _=>by simp) ?_))
  intro va wa rowa owna hga hra hva;have hGa:w.grownBy wa (some kp):=grown_mix (grown_trans hG8 (World.grownBy_alloc _ _ _)) hga (fun b e=>Nat.le_trans hs8 (hra b e));have hRa:=(hR8.row (World.grownBy_alloc W9 _ none) (by simp)).row hga (fun b e=>Nat.le_trans (Nat.le_trans hlo hs8) (hra b e));have hOa:OwnN wa w.heap.size (.slice none 0 0) ([]):=own_keep (own_any hO8 (World.grownBy_alloc W9 _ none) (by simp)) (fun g e=>(l8 g e).2) hga hra;have hsa:W9.heap.size≤wa.heap.size:=Nat.le_trans (by simp) hga.size;clear hga hra hva hO8 hG8 hR8 l8;go_wp2_with (at_builtin;refine wpList_appG (by rfl) (.tmp 59) (.tmp 60) (by rfl) wa W9.heap.size hsa va [callN ⟨nm.toArray⟩ (0)] (by rfl) owna (.slice none 0 0) _ ([]) (by rfl) hOa (fun _=>by simp only [List.length_singleton,List.length_nil];omega) ?_)
  intro vd wd rowd ownd hgd hrd _;have hGd:w.grownBy wd (some kp):=grown_mix hGa hgd (fun b e=>Nat.le_trans hs8 (hrd b e));have hRd:=hRa.row hgd (fun b e=>Nat.le_trans (Nat.le_trans hlo hs8) (hrd b e));clear hgd hrd hOa owna hGa hRa;go_wp2;go_ret;rw [HQ9.out];exact ⟨hGd,vd,rfl,own_ge ownd hs8,hRd⟩
 | false =>
  have HQ0:Hid (RES=af sub en nm 0 [] r):=by show _=_;rw [hres,pargs_none hm]
  clear hres;go_enter Tryz.func147,Tryz.ntmps147;go_upto_region 2 with fail
  clear c1 z1;obtain ⟨W,hW⟩:∃ W,w.setCell ⟨kp,1,none⟩ (.int .i64 ((a:Int)+2))=W:=⟨_,rfl⟩
  rw [hW] at HRW HGW ⊢;have M1:=qmark_any tn lo kp en W _ 0 0 0 (by omega) [41] HRW.out;rw [hm] at M1;clear hW hm;go_wp2_with fail
  refine M1.mono ?_;rintro e w1 ⟨rfl,rfl⟩;clear M1;have HOW:Hid (OwnN W w.heap.size (.slice none 0 0) []):=World.ownsRow_nil _ _ _ _;have HKW:Hid (∀ x ∈ r,TokOk x):=hokr;go_wp2_with fail
  go_loopg [5,6] (r.length) (fun gk x y wr=>∃ (c:Nat) (rows:List Wt.Nd) (us:List Wlx.TV),x=.int .i64 (c:Int)∧gk=us.length∧c≤29∧us.length≤r.length∧rows.length+us.length≤1022∧Hid (∀ x ∈ us,TokOk x)∧Hid (OwnN wr w.heap.size y rows)∧Hid (RS tn lo kp en wr us 0 0)∧Hid (w.grownBy wr (some kp))∧Hid (RES=af sub en nm c rows us))
  case atStart=>exact ⟨0,[],r,rfl,rfl,by omega,Nat.le_refl _,by simpa using hrl,HKW,HOW,HRW,HGW,HQ0⟩
  case round =>
   clear HKW HOW HRW HGW HQ0 hokr;obtain ⟨c,rows,us,rfl,hgk,hc29,hul,hlen,HK,HO,HR,HG,HQ⟩:=hrel;have hci:(c:Int)≤29:=by omega
   have S:=SL us wr (by omega) HK.out HR.out;cases hs:sub us with
   | inr q =>
    obtain ⟨c5,p5⟩:=q;rw [hs] at S;have HQ9:Hid (RES=.inr (c5,p5)):=by show _=_;rw [HQ.out];unfold af;rw [hs]
    clear hs HQ;go_wp2_with fail
    refine S.mono ?_;rintro e w2 ⟨hg2,hc5,vb,row,ts2,rfl,ownb,hrw,hRb⟩;have hG2:w.grownBy w2 (some kp):=grown_trans HG.out hg2;have hO2:OwnN w2 w.heap.size u6 rows:=own_grown HO.out hg2 hkw;have hs2:=hG2.size;clear S hg2 HG HO HR;go_wp2_with (at_builtin;refine wpList_appG (by rfl) (.tmp 22) (.tmp 23) (by rfl) w2 w.heap.size hs2 u6 rows (by rfl) hO2 vb _ row (by rfl) ownb (fun _=>by omega) ?_)
    intro vc wc rowc ownc hgc hrc _;have hGc:w.grownBy wc (some kp):=grown_mix hG2 hgc hrc;have hRc:=hRb.row hgc (fun b e=>Nat.le_trans hlo (hrc b e));have MC:=qmark_any tn lo kp en wc _ c5 p5 0 (by omega) [44] hRc;have ME:=qmark_any tn lo kp en wc _ c5 p5 0 (by omega) [41] hRc;have F:=qfail_n tn lo kp en 50 c5 p5 hc5 wc _ hRc;have hcd:decide (c5=0)=false:=by simpa using hc5
    rw [hcd,Bool.false_and] at MC ME;clear hgc hrc hO2 ownb hRb hG2 hcd;go_wp2_with fail
    refine MC.mono ?_;rintro e w5 ⟨rfl,rfl⟩;go_wp2_with fail
    refine ME.mono ?_;rintro e w5 ⟨rfl,rfl⟩;go_wp2_with fail
    refine F.mono ?_;rintro e w5 ⟨rfl,rfl⟩;go_wp2;go_ret;rw [HQ9.out];exact ⟨hGc,hc5,_,[],ts2,rfl,World.ownsRow_nil _ _ _ _,by simp,hRc⟩
   | inl q =>
    obtain ⟨row,r2⟩:=q;rw [hs] at S;have hft:=(hfit us row r2 HK.out hs).2;have hsf:=hsuf us row r2 hs;have HQ2:Hid (RES=fin nm (argl sub en (r2.length+1) (c+1) (rows++row) r2)):=by show _=_;rw [HQ.out];unfold af;rw [hs]
    have HK2:Hid (∀ x ∈ r2,TokOk x):=fun x hx=>HK.out x (hsf.subset hx)
    have hsl:=hsf.length_le;clear hs HQ HK hsf;go_wp2_with fail
    refine S.mono ?_;rintro e w2 ⟨hg2,vb,rfl,ownb,hRb⟩;have hG2:w.grownBy w2 (some kp):=grown_trans HG.out hg2;have hO2:OwnN w2 w.heap.size u6 rows:=own_grown HO.out hg2 hkw;have hs2:=hG2.size;clear S hg2 HG HO HR;go_wp2_with (at_builtin;refine wpList_appG (by rfl) (.tmp 22) (.tmp 23) (by rfl) w2 w.heap.size hs2 u6 rows (by rfl) hO2 vb _ row (by rfl) ownb (fun _=>by omega) ?_)
    intro vc wc rowc ownc hgc hrc _;have hGc:w.grownBy wc (some kp):=grown_mix hG2 hgc hrc;have hRc:=hRb.row hgc (fun b e=>Nat.le_trans hlo (hrc b e));have MC:=qmark_any tn lo kp en wc _ 0 0 0 (by omega) [44] hRc;clear hgc hrc hO2 ownb hRb hG2;cases hmc:mkk r2 0 [44] with
    | true =>
     rw [hmc] at MC;obtain ⟨t5,r5,hu5,-⟩:=qtk_some hmc;subst hu5;by_cases hc30:c=29
     ·subst hc30;have F:=qfail_0 tn lo kp en 3 wc _ hRc;have HQ9:Hid (RES=.inr (3,pos (t5::r5) en)):=by show _=_;rw [HQ2.out,argl_many hmc];rfl
      go_wp2_with fail
      refine MC.mono ?_;rintro e w5 ⟨rfl,rfl⟩;go_wp2_with fail
      refine F.mono ?_;rintro e w6 ⟨rfl,hR6,hg6⟩;go_wp2;go_ret;rw [HQ9.out];exact ⟨grown_trans hGc hg6,by decide,_,[],_,rfl,World.ownsRow_nil _ _ _ _,by simp,hR6⟩
     ·have hc30b:(((c:Int)+1) == 30)=false:=by simp;omega
      obtain ⟨a9,ha9,d9,z9,hR9,hG9⟩:=rs_pass hRc;have HR9:Hid (RS tn lo kp en (wc.setCell ⟨kp,1,none⟩ (.int .i64 ((a9:Int)+1))) r5 0 0):=hR9;have HG9:Hid (w.grownBy (wc.setCell ⟨kp,1,none⟩ (.int .i64 ((a9:Int)+1))) (some kp)):=grown_trans hGc hG9;have HO9:Hid (OwnN (wc.setCell ⟨kp,1,none⟩ (.int .i64 ((a9:Int)+1))) w.heap.size vc (rows++row)):=own_grown ownc hG9 hkw;have HQ9:Hid (RES=af sub en nm (c+1) (rows++row) r5):=by show _=_;rw [HQ2.out,argl_more hsuf hmc (by omega)]
      have HK9:Hid (∀ x ∈ r5,TokOk x):=fun x hx=>HK2.out x (List.mem_cons_of_mem _ hx)
      simp only [List.length_cons] at hft hsl;clear hR9 hG9 hRc hGc ownc HQ2 HK2;go_wp2_with fail
      refine MC.mono ?_;rintro e w5 ⟨rfl,rfl⟩;clear MC;go_wp2_with fail
      go_roundg (r5.length)
      case rel=>exact ⟨c+1,rows++row,r5,by simp,rfl,by omega,by omega,by rw [List.length_append];omega,HK9,HO9,HR9,HG9,HQ9⟩
      case measure=>omega
    | false =>
     rw [hmc] at MC;cases hm9:mkk r2 0 [41] with
     | true =>
      go_wp2_with fail
      refine MC.mono ?_;rintro e w5 ⟨rfl,rfl⟩;clear MC;have ME:=qmark_any tn lo kp en wc _ 0 0 0 (by omega) [41] hRc;rw [hm9] at ME;obtain ⟨t9,r9,hu9,htk9⟩:=qtk_some hm9;rw [hu9] at hRc;obtain ⟨a9,ha9,d9,z9,hR9,hG9⟩:=rs_pass hRc;have HR9:Hid (RS tn lo kp en (wc.setCell ⟨kp,1,none⟩ (.int .i64 ((a9:Int)+1))) r9 0 0):=hR9;have HG9:Hid (w.grownBy (wc.setCell ⟨kp,1,none⟩ (.int .i64 ((a9:Int)+1))) (some kp)):=grown_trans hGc hG9;have HO9:Hid (OwnN (wc.setCell ⟨kp,1,none⟩ (.int .i64 ((a9:Int)+1))) w.heap.size vc (rows++row)):=own_grown ownc hG9 hkw;have HQ9:Hid (RES=.inl ([callN ⟨nm.toArray⟩ (c+1)]++(rows++row),r9)):=by
       show _=_
       rw [HQ2.out,argl_end htk9];rfl
      clear htk9 HQ2;clear hR9 hG9 hu9;go_wp2_with fail
      refine ME.mono ?_;rintro e w9 ⟨rfl,rfl⟩;clear ME;go_upto_region 15 with fail
      clear d9 z9;obtain ⟨W9,hW9⟩:∃ W9,wc.setCell ⟨kp,1,none⟩ (.int .i64 ((a9:Int)+1))=W9:=⟨_,rfl⟩
      rw [hW9] at HR9 HG9 HO9 ⊢;have hR8:=HR9.out;have hG8:=HG9.out;have hO8:=HO9.out;have hs8:=hG8.size;have l8:=hO8.lt;clear hW9 HR9 HG9 HO9;go_wp2_with (first
       | ((with_reducible refine wpList_bldC ?_ (.const (.int .i64 6)) (.tmp 54) (.tmp 55) ?_ ⟨nm.toArray⟩ (c+1) ?_ ?_ ?_ ?_);rfl;rfl;rfl;rfl;first | rfl | simp)
       | ((with_reducible refine wpList_bs1n ?_ (.tmp 56) ?_ (callN ⟨nm.toArray⟩ (c+1)) ?_ ?_);rfl;rfl;rfl)
       | (at_builtin;refine wpList_appG (by rfl) (.tmp 53) (.tmp 57) (by rfl) _ W9.heap.size (by simp) _ [] (by rfl) (World.ownsRow_nil _ _ _ _) _ _ [callN ⟨nm.toArray⟩ (c+1)] (by rfl) (own_one W9 _) (fun _=>by simp) ?_))
      intro va wa rowa owna hga hra hva;have hGa:w.grownBy wa (some kp):=grown_mix (grown_trans hG8 (World.grownBy_alloc _ _ _)) hga (fun b e=>Nat.le_trans hs8 (hra b e));have hRa:=(hR8.row (World.grownBy_alloc W9 _ none) (by simp)).row hga (fun b e=>Nat.le_trans (Nat.le_trans hlo hs8) (hra b e));have hOa:OwnN wa w.heap.size vc (rows++row):=own_keep (own_any hO8 (World.grownBy_alloc W9 _ none) (by simp)) (fun g e=>(l8 g e).2) hga hra;have hsa:W9.heap.size≤wa.heap.size:=Nat.le_trans (by simp) hga.size;clear hga hra hva hO8 hG8 hR8 l8;go_wp2_with (at_builtin;refine wpList_appG (by rfl) (.tmp 59) (.tmp 60) (by rfl) wa W9.heap.size hsa va [callN ⟨nm.toArray⟩ (c+1)] (by rfl) owna vc _ (rows++row) (by rfl) hOa (fun _=>by simp only [List.length_singleton,List.length_append];omega) ?_)
      intro vd wd rowd ownd hgd hrd _;have hGd:w.grownBy wd (some kp):=grown_mix hGa hgd (fun b e=>Nat.le_trans hs8 (hrd b e));have hRd:=hRa.row hgd (fun b e=>Nat.le_trans (Nat.le_trans hlo hs8) (hrd b e));clear hgd hrd hOa owna hGa hRa;go_wp2;go_ret;rw [HQ9.out];exact ⟨hGd,vd,rfl,own_ge ownd hs8,hRd⟩
     | false =>
      have ME:=qmark_any tn lo kp en wc _ 0 0 0 (by omega) [41] hRc;rw [hm9] at ME;have F:=qfail_0 tn lo kp en 50 wc _ hRc;have HQ9:Hid (RES=.inr (50,pos r2 en)):=by show _=_;rw [HQ2.out,argl_bad hm9 hmc];rfl
      go_wp2_with fail
      refine MC.mono ?_;rintro e w5 ⟨rfl,rfl⟩;go_wp2_with fail
      refine ME.mono ?_;rintro e w5 ⟨rfl,rfl⟩;go_wp2_with fail
      refine F.mono ?_;rintro e w6 ⟨rfl,hR6,hg6⟩;go_wp2;go_ret;rw [HQ9.out];exact ⟨grown_trans hGc hg6,by decide,_,[],_,rfl,World.ownsRow_nil _ _ _ _,by simp,hR6⟩
end Go.Proofs.YtlggnpohhahdlaaGreatDoor
