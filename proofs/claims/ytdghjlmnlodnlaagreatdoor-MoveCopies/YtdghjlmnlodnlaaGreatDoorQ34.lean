/- TQWordB, TQCall, LBytes. -/
import Derived.Test.YtdghjlmnlodnlaaGreatDoorQ33
import Derived.Laws.BytesArg
set_option maxHeartbeats 3200000
set_option maxRecDepth 100000
namespace Go.Proofs.YtdghjlmnlodnlaaGreatDoor
open Tryz
open Go.RowKit Go.Shelf
set_option linter.unusedVariables false
variable {en:Int} {sub:List Wlx.TV->PR} {w:World} {t:Wlx.TV} {r ts:List Wlx.TV} {rows:List Wt.Nd} {B c n:Nat} {v:Value} {m l:List UInt8}
theorem zKM (v:Wt.Vl):(vl6 v).toArray.all (·.oneCell')=true:=by simp [vl6,Value.oneCell']
theorem zBZ (v:Wt.Vl) (w:World):Calls prog 147 #[.agg (vl6 v).toArray] w λe w'=>∃ u,e=.returned u/\OwnN w' w.heap.size u [zAj v]/\Below w.heap.size w w':=by
 have pA:AtL (w.alloc (.cells (vl6 v).toArray 26)) w.heap.size (vl6 v):=AtL.new0 w _ _;have hB:=zAI (Below.refl _ w) (.cells (vl6 v).toArray 26);have rA:=AtL.range pA;go_enter func147,ntmps147;go_upto_region 1 with fail
 generalize w.alloc (.cells (vl6 v).toArray 26)=W at *;have hsW:=hB.size;go_wp2_with (first
  | ((with_reducible refine wpList_load_mid (cs:=vl6 v) ?_ 26 (.tmp 1) ?_ (w.heap.size) 0 ?_ _ ?_ underlying26 ?_ ?_ ?_);rfl;rfl;rfl;exact rA;rfl;kernel_rfl)
  | ((with_reducible refine zGP ?_ (.const (.int .i64 1)) (.tmp 5) ?_ v ?_ ?_ ?_);rfl;rfl;rfl;rfl)
  | ((with_reducible refine zAR ?_ (.tmp 6) ?_ (zAj v) ?_ ?_);rfl;rfl;rfl)
  | (at_builtin;refine zAL (by rfl) (.tmp 4) (.tmp 7) (by rfl) _ w.heap.size (by simp only [World.size_alloc];omega) _ [] (by rfl) (World.ownsRow_nil _ _ _ _) _ _ [zAj v] (by rfl) (zAf W _) (λ_=>by simp) ?_))
 intro va wa rowa owna hga hra hva;have hBa:Below w.heap.size w wa:=(zAI hB _).grown hga (by simp only [World.size_alloc];omega) hra;clear hga hra hva;go_wp2;go_ret;exact ⟨va,rfl,owna,hBa⟩
theorem zDd (b:Bool) (w:World):CR 127 #[.bool b] w (.agg (vl6 (zA1 b)).toArray):=by
 go_enter func127,ntmps127;go_wp2;refine bodyPost_ret (v:=.agg (vl6 (zA1 b)).toArray) (by simp [results,results127,go_sem,vl6,zA1]) rfl ⟨rfl,?_⟩;exact clA
theorem zGv {tn lo kp:Nat} {u:Wlx.TV} (h:RS tn lo kp en w (t::u::r) 0 0):∃ a:Nat,(a:Int)<=1024/\w.cell? ⟨kp,1,none⟩=some (.int .i64 (a:Int))/\w.frozen? ⟨kp,1,none⟩=false/\RS tn lo kp en (w.setCell ⟨kp,1,none⟩ (.int .i64 ((a:Int)+2))) r 0 0/\w.grownBy (w.setCell ⟨kp,1,none⟩ (.int .i64 ((a:Int)+2))) (some kp):=by
 obtain ⟨av,cap,T,a,e,h2,h3,h4,h5,h6,h7,h8⟩:=h;have hl:(T.drop a).length=r.length+2:=by rw [e];rfl
 rw [List.length_drop] at hl;have er:T.drop (a+2)=r:=by rw [<-List.drop_drop,e];rfl
 have hg:=zAQ w kp 1 (.int .i64 ((a:Int)+2));refine ⟨a,by omega,h6.2.1 1 _ rfl,h6.2.2 1 (by simp [rs5]),?_,hg⟩;rw [<-er];exact zGy (a:=a+2) (cap:=cap) (E:=0) (Bad:=0) (by omega) h3 h4 h5 h7 h8 hg (h6.set 1 _)
theorem zKN (h:mkk (t::r) 1 m=true):∃ u r2,r=u::r2:=by
 cases r with
 | nil=>cases h
 | cons u r2=>exact ⟨u,r2,rfl⟩
theorem zNf (tn lo kp:Nat) (en:Int) (w:World) (t:Wlx.TV) (r:List Wlx.TV) (hok:∀ x ∈ t::r,zAP x) (h:RS tn lo kp en w (t::r) 0 0) (hm0:mkk (t::r) 1 [40]=true) (hnm:Wt.fnNm ⟨t.t.toArray⟩=false) (RES:PR) (hres:RES=.inr (50,pos (t::r) en)) :
  Calls prog 148 #[.pointer (some ⟨kp,0,none⟩),.string ⟨t.t.toArray⟩] w λe w'=>QPost tn lo kp en (t::r).length RES w e w':=by
 obtain ⟨hkl,hlo,h1024⟩:=h.lo;have hkw:kp<w.heap.size:=by omega
 have HRES:Hid (RES=.inr (50,pos (t::r) en)):=hres;have M1:=zAK tn lo kp en w _ 0 0 1 (by omega) [40] h;rw [hm0] at M1;have N:=zEz ⟨t.t.toArray⟩ w (by show t.t.length<=_;have:=(hok t (by simp)).1;omega);rw [hnm] at N;have F:=zAw tn lo kp en 50 w _ h;clear hm0 hres;go_enter func148,ntmps148;go_wp2_with fail
 refine M1.mono ?_;rintro e w1 ⟨rfl,rfl⟩;go_wp2_with fail
 refine N.mono ?_;rintro e w1 ⟨rfl,rfl⟩;go_wp2_with fail
 refine F.mono ?_;rintro e w2 ⟨rfl,hR2,hg2⟩;go_wp2;go_ret;rw [HRES.out];exact ⟨hg2,by decide,_,[],_,rfl,World.ownsRow_nil _ _ _ _,by simp,hR2⟩
theorem zNw (tn lo kp:Nat) (en:Int) (w:World) (t:Wlx.TV) (r:List Wlx.TV) (hok:∀ x ∈ t::r,zAP x) (h:RS tn lo kp en w (t::r) 0 0) (hm0:mkk (t::r) 1 [40]=true) (hnm:Wt.fnNm ⟨t.t.toArray⟩=true) (Q:PR) (HC:Calls prog 170 #[.pointer (some ⟨kp,0,none⟩),.string ⟨t.t.toArray⟩] w λe w'=>QPost tn lo kp en (t::r).length Q w e w') (RES:PR) (hres:RES=Q) :
  Calls prog 148 #[.pointer (some ⟨kp,0,none⟩),.string ⟨t.t.toArray⟩] w λe w'=>QPost tn lo kp en (t::r).length RES w e w':=by
 obtain ⟨hkl,hlo,h1024⟩:=h.lo;have hkw:kp<w.heap.size:=by omega
 have HRES:Hid (RES=Q):=hres;have M1:=zAK tn lo kp en w _ 0 0 1 (by omega) [40] h;rw [hm0] at M1;have N:=zEz ⟨t.t.toArray⟩ w (by show t.t.length<=_;have:=(hok t (by simp)).1;omega);rw [hnm] at N;clear hm0 hres;refine zDN HC (λHC=>?_) (λe w' q=>q.val);go_enter func148,ntmps148;go_wp2_with fail
 refine M1.mono ?_;rintro e w1 ⟨rfl,rfl⟩;go_wp2_with fail
 refine N.mono ?_;rintro e w1 ⟨rfl,rfl⟩;go_wp2_with fail
 refine HC.mono ?_;rintro e w2 ⟨⟨v,rfl⟩,hQ⟩;go_wp2;go_ret;rw [HRES.out];exact hQ
theorem zNU (tn lo kp:Nat) (en:Int) (w:World) (t:Wlx.TV) (r:List Wlx.TV) (hok:∀ x ∈ t::r,zAP x) (h:RS tn lo kp en w (t::r) 0 0) (hm0:mkk (t::r) 1 [40]=false) (hm1:mkk (t::r) 1 [33]=true) (hnm:Wt.shNm ⟨t.t.toArray⟩=false) (RES:PR) (hres:RES=.inr (50,pos (t::r) en)) :
  Calls prog 148 #[.pointer (some ⟨kp,0,none⟩),.string ⟨t.t.toArray⟩] w λe w'=>QPost tn lo kp en (t::r).length RES w e w':=by
 obtain ⟨hkl,hlo,h1024⟩:=h.lo;have hkw:kp<w.heap.size:=by omega
 have HRES:Hid (RES=.inr (50,pos (t::r) en)):=hres;have M1:=zAK tn lo kp en w _ 0 0 1 (by omega) [40] h;rw [hm0] at M1;have M2:=zAK tn lo kp en w _ 0 0 1 (by omega) [33] h;rw [hm1] at M2;have N:=zEp ⟨t.t.toArray⟩ w (by show t.t.length<=_;have:=(hok t (by simp)).1;omega);rw [hnm] at N;have F:=zAw tn lo kp en 50 w _ h;clear hm0 hm1 hres;go_enter func148,ntmps148;go_wp2_with fail
 refine M1.mono ?_;rintro e w1 ⟨rfl,rfl⟩;go_wp2_with fail
 refine M2.mono ?_;rintro e w1 ⟨rfl,rfl⟩;go_wp2_with fail
 refine N.mono ?_;rintro e w1 ⟨rfl,rfl⟩;go_wp2_with fail
 refine F.mono ?_;rintro e w2 ⟨rfl,hR2,hg2⟩;go_wp2;go_ret;rw [HRES.out];exact ⟨hg2,by decide,_,[],_,rfl,World.ownsRow_nil _ _ _ _,by simp,hR2⟩
theorem zN1 (tn lo kp:Nat) (en:Int) (w:World) (t:Wlx.TV) (r:List Wlx.TV) (hok:∀ x ∈ t::r,zAP x) (h:RS tn lo kp en w (t::r) 0 0) (hm0:mkk (t::r) 1 [40]=false) (hm1:mkk (t::r) 1 [33]=true) (hnm:Wt.shNm ⟨t.t.toArray⟩=true) (RES:PR) (hres:RES=pcs ⟨t.t.toArray⟩ ((t::r).drop 2) en) :
  Calls prog 148 #[.pointer (some ⟨kp,0,none⟩),.string ⟨t.t.toArray⟩] w λe w'=>QPost tn lo kp en (t::r).length RES w e w':=by
 obtain ⟨hkl,hlo,h1024⟩:=h.lo;have hkw:kp<w.heap.size:=by omega
 have HRES:Hid (RES=pcs ⟨t.t.toArray⟩ ((t::r).drop 2) en):=hres;have M1:=zAK tn lo kp en w _ 0 0 1 (by omega) [40] h;rw [hm0] at M1;have M2:=zAK tn lo kp en w _ 0 0 1 (by omega) [33] h;rw [hm1] at M2;have N:=zEp ⟨t.t.toArray⟩ w (by show t.t.length<=_;have:=(hok t (by simp)).1;omega);rw [hnm] at N;obtain ⟨u,r2,rfl⟩:=zKN hm1;obtain ⟨a,ha,c1,z1,hRp,hGp⟩:=zGv h;have HRW:Hid (RS tn lo kp en (w.setCell ⟨kp,1,none⟩ (.int .i64 ((a:Int)+2))) r2 0 0):=hRp;have HGW:Hid (w.grownBy (w.setCell ⟨kp,1,none⟩ (.int .i64 ((a:Int)+2))) (some kp)):=hGp;have hok1:∀ x ∈ r2,zAP x:=λx hx=>hok x (by simp [hx])
 have hd2:(t::u::r2).drop 2=r2:=rfl;rw [hd2] at HRES;obtain ⟨ts1,hts1⟩:∃ ts1,r2=ts1:=⟨_,rfl⟩
 obtain ⟨nl,hnl⟩:∃ nl,(t::u::r2).length=nl:=⟨_,rfl⟩
 rw [hts1] at HRW hok1 HRES;rw [hnl];obtain ⟨tb,htb⟩:∃ tb:ByteArray,(⟨t.t.toArray⟩:ByteArray)=tb:=⟨_,rfl⟩
 rw [htb] at N HRES ⊢;clear hm0 hm1 hres h hts1 hRp hGp hd2 hnm hnl htb;go_enter func148,ntmps148;go_wp2_with fail
 refine M1.mono ?_;rintro e w1 ⟨rfl,rfl⟩;go_wp2_with fail
 refine M2.mono ?_;rintro e w1 ⟨rfl,rfl⟩;go_wp2_with fail
 refine N.mono ?_;rintro e w1 ⟨rfl,rfl⟩;clear M1 M2 N;go_upto_region 16 with fail
 clear c1 z1;obtain ⟨W,hW⟩:∃ W,w.setCell ⟨kp,1,none⟩ (.int .i64 ((a:Int)+2))=W:=⟨_,rfl⟩
 rw [hW] at HRW HGW ⊢;have hRW:=HRW.out;have hGW:=HGW.out;clear hW HRW HGW;have C1:=zCc tn lo kp en ts1 W hok1 hRW;go_wp2_with fail
 refine C1.mono ?_;rintro e w1 ⟨hg1,a1,u1,c1,p1,rfl,hR1,hL1⟩;have hG1:w.grownBy w1 (some kp):=zAB hGW hg1;have hs1:=hG1.size;obtain ⟨RA,hRA⟩:∃ RA:Wt.Rf,(⟨tb,a1.r,a1.c,a1.fr,a1.fc⟩:Wt.Rf)=RA:=⟨_,rfl⟩
 have pR0:AtL (w1.alloc (.cells zR0 28)) w1.heap.size (rf5 Wt.r0):=AtL.new0 _ _ _;have tR0:(w1.alloc (.cells zR0 28)).there w1.heap.size 0 (rf5 a1).toArray.size:=pR0.there;have pR1:AtL ((w1.alloc (.cells zR0 28)).setCells w1.heap.size 0 (rf5 a1)) w1.heap.size (rf5 a1):=pR0.setAll rfl;have hb1:Below w1.heap.size w1 ((w1.alloc (.cells zR0 28)).setCells w1.heap.size 0 (rf5 a1)):=zAu (zAI (Below.refl _ w1) _) (Nat.le_refl _) _ 0;clear C1 hg1 pR0 hRW hGW;go_upto_region 17 with ((with_reducible refine wpList_store_mid ?_ 28 (.tmp 8) (.tmp 57) ?_ (w1.heap.size) 0 (rf5 a1).toArray ?_ ?_ ?_ ?_ ?_ ?_);rfl;rfl;rfl;rfl;exact tR0;kernel_rfl;exact zDH _)
 generalize (w1.alloc (.cells zR0 28)).setCells w1.heap.size 0 (rf5 a1).toArray.toList=W2 at *;have pR2:AtL (W2.setCell ⟨w1.heap.size,0,none⟩ (.string tb)) w1.heap.size (rf5 RA):=by rw [<-hRA];exact pR1.set 0 (.string tb)
 have hb2:=hb1.setCell (p:=⟨w1.heap.size,0,none⟩) (Nat.le_refl _) (.string tb);have x0:=pR1.2.1 0 _ rfl;have f0:=pR1.2.2 0 (by show 0<5;omega);have HRA:Hid (⟨tb,a1.r,a1.c,a1.fr,a1.fc⟩=RA):=hRA;clear tR0 pR1 hb1 hRA;go_upto_region 18 with fail
 clear x0 f0;generalize W2.setCell ⟨w1.heap.size,0,none⟩ (.string tb)=W3 at *;have rR:=AtL.range pR2;have pN0:AtL (W3.alloc (.cells zN0 30)) W3.heap.size (zAD ⟨0,Wt.v0,0,⟨#[]⟩,0,Wt.r0,Wt.r0⟩):=AtL.new0 _ _ _;have tN0:(W3.alloc (.cells zN0 30)).there W3.heap.size 0 (zAD (⟨2,Wt.v0,0,⟨#[]⟩,0,RA,Wt.r0⟩:Wt.Nd)).toArray.size:=pN0.there;have pN:AtL ((W3.alloc (.cells zN0 30)).setCells W3.heap.size 0 (zAD (⟨2,Wt.v0,0,⟨#[]⟩,0,RA,Wt.r0⟩:Wt.Nd))) W3.heap.size (zAD ⟨2,Wt.v0,0,⟨#[]⟩,0,RA,Wt.r0⟩):=pN0.setAll rfl;have hz3:w1.heap.size<=W3.heap.size:=hb2.size;have hb3:Below w1.heap.size w1 ((W3.alloc (.cells zN0 30)).setCells W3.heap.size 0 (zAD (⟨2,Wt.v0,0,⟨#[]⟩,0,RA,Wt.r0⟩:Wt.Nd))):=zAu (zAI hb2 _) hz3 _ 0;clear pN0 pR2 hb2;go_upto_region 19 with (first
  | ((with_reducible refine wpList_load_mid (cs:=rf5 RA) ?_ 28 (.tmp 8) ?_ (w1.heap.size) 0 ?_ _ ?_ underlying28 ?_ ?_ ?_);rfl;rfl;rfl;exact rR;rfl;kernel_rfl)
  | ((with_reducible refine zDi ?_ (.const (.int .i64 2)) (.tmp 60) ?_ 2 RA ?_ ?_ ?_);rfl;rfl;rfl;rfl)
  | ((with_reducible refine wpList_store_mid ?_ 30 (.tmp 9) (.tmp 61) ?_ (W3.heap.size) 0 (zAD (⟨2,Wt.v0,0,⟨#[]⟩,0,RA,Wt.r0⟩:Wt.Nd)).toArray ?_ ?_ ?_ ?_ ?_ ?_);rfl;rfl;rfl;rfl;exact tN0;kernel_rfl;exact zAc _))
 generalize (W3.alloc (.cells zN0 30)).setCells W3.heap.size 0 (zAD (⟨2,Wt.v0,0,⟨#[]⟩,0,RA,Wt.r0⟩:Wt.Nd)).toArray.toList=W4 at *;obtain ⟨kn,hkn⟩:∃ kn,W3.heap.size=kn:=⟨_,rfl⟩
 rw [hkn] at pN hz3 ⊢;clear rR tN0 hkn;have hR4:=hR1.below hb3;have hG4:w.grownBy W4 (some kp):=zAB hG1 (zAC hb3 _);have M:=zAK tn lo kp en W4 _ c1 p1 0 (by omega) [58] hR4;clear hR1 hG1 hb3;have hsz4:=hG4.size;cases hbm:(decide (c1=0) && mkk u1 0 [58]) with
 | false =>
  rw [hbm] at M;have rN:=AtL.range pN;have HQ:Hid (RES=pcs tb ts1 en):=HRES.out;go_wp2_with fail
  refine M.mono ?_;rintro e w5 ⟨rfl,rfl⟩;clear M;go_wp2_with (first
   | ((with_reducible refine wpList_load_mid (cs:=zAD (⟨2,Wt.v0,0,⟨#[]⟩,0,RA,Wt.r0⟩:Wt.Nd)) ?_ 30 (.tmp 9) ?_ (kn) 0 ?_ _ ?_ underlying30 ?_ ?_ ?_);rfl;rfl;rfl;exact rN;rfl;kernel_rfl)
   | ((with_reducible refine zAR ?_ (.tmp 76) ?_ (⟨2,Wt.v0,0,⟨#[]⟩,0,RA,Wt.r0⟩:Wt.Nd) ?_ ?_);rfl;rfl;rfl)
   | (at_builtin;refine zAL (by rfl) (.tmp 75) (.tmp 77) (by rfl) _ w.heap.size (by simp only [World.size_alloc];omega) _ [] (by rfl) (World.ownsRow_nil _ _ _ _) _ _ [(⟨2,Wt.v0,0,⟨#[]⟩,0,RA,Wt.r0⟩:Wt.Nd)] (by rfl) (zAf W4 _) (λ_=>by simp) ?_))
  intro va wa rowa owna hga hra hva;have hGa:w.grownBy wa (some kp):=zAO (zAB hG4 (World.grownBy_alloc _ _ _)) hga hra;have hRa:=(hR4.row (World.grownBy_alloc W4 _ none) (by simp)).row hga (λb e=>Nat.le_trans hlo (hra b e));clear hga hra hva hR4 hG4;go_wp2;go_ret;rw [HQ.out];unfold pcs;rcases hL1 with ⟨rfl,rfl,hp1⟩ | ⟨hc1,hp1⟩
  ·have hm:mkk u1 0 [58]=false:=by simpa using hbm
   rw [hp1];simp only;rw [zBJ hm];simp only;rw [HRA.out];exact ⟨hGa,va,rfl,owna,hRa⟩
  ·rw [hp1];exact ⟨hGa,hc1,va,_,u1,rfl,owna,by simp,hRa⟩
 | true =>
  rw [hbm] at M;simp only [Bool.and_eq_true,decide_eq_true_eq] at hbm;obtain ⟨hc1,hm⟩:=hbm;obtain ⟨t5,r5,hu1,htk⟩:=zB4 hm;obtain ⟨hpz,hp1⟩:p1=0/\pc ts1 en=.inl (a1,u1):=by
   rcases hL1 with ⟨-,x,y⟩ | ⟨x,-⟩
   ·exact ⟨x,y⟩
   ·exact absurd hc1 x
  clear hL1;rw [hc1,hpz,hu1] at hR4;have hok5:∀ x ∈ r5,zAP x:=λx hx=>hok1 x ((zH2 hp1).subset (by rw [hu1];exact List.mem_cons_of_mem _ hx))
  obtain ⟨a5,ha5,d1,z1,hR5,hG5⟩:=zAg hR4;have HR5:Hid (RS tn lo kp en (W4.setCell ⟨kp,1,none⟩ (.int .i64 ((a5:Int)+1))) r5 0 0):=hR5;have HG5:Hid (w.grownBy (W4.setCell ⟨kp,1,none⟩ (.int .i64 ((a5:Int)+1))) (some kp)):=zAB hG4 hG5;have pN5:=pN.far (j:=kp) (by omega) 1 (.int .i64 ((a5:Int)+1));have HQ:Hid (RES=pcs tb ts1 en):=HRES.out;clear hR4 hG4 hR5 hG5 pN;go_wp2_with fail
  refine M.mono ?_;rintro e w5 ⟨rfl,rfl⟩;clear M;go_upto_region 21 with fail
  clear d1 z1;generalize W4.setCell ⟨kp,1,none⟩ (.int .i64 ((a5:Int)+1))=W5 at *;have pN6:AtL (W5.setCell ⟨kn,0,none⟩ (.int .i64 3)) kn (zAD ⟨3,Wt.v0,0,⟨#[]⟩,0,RA,Wt.r0⟩):=pN5.set 0 (.int .i64 3);have hR6:=HR5.out.row (zAQ W5 kn 0 (.int .i64 3)) (λb e=>by have:=Option.some.inj e;omega);have hG6:w.grownBy (W5.setCell ⟨kn,0,none⟩ (.int .i64 3)) (some kp):=zAO HG5.out (zAQ W5 kn 0 (.int .i64 3)) (λb e=>by have:=Option.some.inj e;omega);have x0:=pN5.2.1 0 _ rfl;have f0:=pN5.2.2 0 (by show 0<20;omega);clear HR5 HG5 pN5;go_upto_region 22 with fail
  clear x0 f0;generalize W5.setCell ⟨kn,0,none⟩ (.int .i64 3)=W6 at *;have C2:=zCc tn lo kp en r5 W6 hok5 hR6;go_wp2_with fail
  refine C2.mono ?_;rintro e w7 ⟨hg7,b1,u2,c2,p2,rfl,hR7,hL2⟩;have hG7:w.grownBy w7 (some kp):=zAB hG6 hg7;have hs7:=hG7.size;have pN7:=pN6.grown hg7 (λe=>by have:=Option.some.inj e;omega);have tN7:w7.there kn 15 (rf5 b1).toArray.size:=pN7.thereSub 15 5 (by show 15+5<=20;omega);have pN8:=zCV pN7 b1;have hR8:=hR7.row (zAV w7 kn (rf5 b1) 15) (λb e=>by have:=Option.some.inj e;omega);have hG8:w.grownBy (w7.setCells kn 15 (rf5 b1)) (some kp):=zAO hG7 (zAV w7 kn (rf5 b1) 15) (λb e=>by have:=Option.some.inj e;omega);clear C2 hg7 hR6 hG6 pN6 pN7 hR7 hG7;go_upto_region 23 with ((with_reducible refine wpList_store_mid ?_ 28 (.tmp 74) (.tmp 73) ?_ (kn) 15 (rf5 b1).toArray ?_ ?_ ?_ ?_ ?_ ?_);rfl;rfl;rfl;rfl;exact tN7;kernel_rfl;exact zDH _)
  generalize w7.setCells kn 15 (rf5 b1).toArray.toList=W8 at *;have rN:=AtL.range pN8;have hs8:=hG8.size;clear tN7;go_wp2_with (first
   | ((with_reducible refine wpList_load_mid (cs:=zAD (⟨3,Wt.v0,0,⟨#[]⟩,0,RA,b1⟩:Wt.Nd)) ?_ 30 (.tmp 9) ?_ (kn) 0 ?_ _ ?_ underlying30 ?_ ?_ ?_);rfl;rfl;rfl;exact rN;rfl;kernel_rfl)
   | ((with_reducible refine zAR ?_ (.tmp 76) ?_ (⟨3,Wt.v0,0,⟨#[]⟩,0,RA,b1⟩:Wt.Nd) ?_ ?_);rfl;rfl;rfl)
   | (at_builtin;refine zAL (by rfl) (.tmp 75) (.tmp 77) (by rfl) _ w.heap.size (by simp only [World.size_alloc];omega) _ [] (by rfl) (World.ownsRow_nil _ _ _ _) _ _ [(⟨3,Wt.v0,0,⟨#[]⟩,0,RA,b1⟩:Wt.Nd)] (by rfl) (zAf W8 _) (λ_=>by simp) ?_))
  intro va wa rowa owna hga hra hva;have hGa:w.grownBy wa (some kp):=zAO (zAB hG8 (World.grownBy_alloc _ _ _)) hga hra;have hRa:=(hR8.row (World.grownBy_alloc W8 _ none) (by simp)).row hga (λb e=>Nat.le_trans hlo (hra b e));clear hga hra hva hR8 hG8;go_wp2;go_ret;rw [HQ.out];unfold pcs;rw [hp1];simp only;rw [htk];simp only;rcases hL2 with ⟨rfl,rfl,hp2⟩ | ⟨hc2,hp2⟩
  ·rw [hp2];simp only;rw [HRA.out];exact ⟨hGa,va,rfl,owna,hRa⟩
  ·rw [hp2];exact ⟨hGa,hc2,va,_,u2,rfl,owna,by simp,hRa⟩
theorem zOc (tn lo kp:Nat) (en:Int) (w:World) (t:Wlx.TV) (r:List Wlx.TV) (hok:∀ x ∈ t::r,zAP x) (h:RS tn lo kp en w (t::r) 0 0) (hm0:mkk (t::r) 1 [40]=false) (hm1:mkk (t::r) 1 [33]=false) (ht:t.t=[84,82,85,69]) (RES:PR) (hres:RES=.inl ([zAj (zA1 true)],r)) :
  Calls prog 148 #[.pointer (some ⟨kp,0,none⟩),.string ⟨t.t.toArray⟩] w λe w'=>QPost tn lo kp en (t::r).length RES w e w':=by
 obtain ⟨hkl,hlo,h1024⟩:=h.lo;have hkw:kp<w.heap.size:=by omega
 have HRES:Hid (RES=.inl ([zAj (zA1 true)],r)):=hres;have M1:=zAK tn lo kp en w _ 0 0 1 (by omega) [40] h;rw [hm0] at M1;have M2:=zAK tn lo kp en w _ 0 0 1 (by omega) [33] h;rw [hm1] at M2;obtain ⟨a,ha,c1,z1,hRp,hGp⟩:=zAg h;have HRW:Hid (RS tn lo kp en (w.setCell ⟨kp,1,none⟩ (.int .i64 ((a:Int)+1))) r 0 0):=hRp;have HGW:Hid (w.grownBy (w.setCell ⟨kp,1,none⟩ (.int .i64 ((a:Int)+1))) (some kp)):=hGp;have V:=λw=>zDd true w
 have L:=λw=>zBZ (zA1 true) w
 obtain ⟨nl,hnl⟩:∃ nl,(t::r).length=nl:=⟨_,rfl⟩
 rw [hnl,ht];clear hm0 hm1 hres h hRp hGp hnl ht;go_enter func148,ntmps148;go_wp2_with fail
 refine M1.mono ?_;rintro e w1 ⟨rfl,rfl⟩;go_wp2_with fail
 refine M2.mono ?_;rintro e w1 ⟨rfl,rfl⟩;clear M1 M2;go_upto_region 15 with fail
 clear c1 z1;obtain ⟨W,hW⟩:∃ W,w.setCell ⟨kp,1,none⟩ (.int .i64 ((a:Int)+1))=W:=⟨_,rfl⟩
 rw [hW] at HRW HGW ⊢;have hRW:=HRW.out;have hGW:=HGW.out;have hsW:=hGW.size;clear hW HRW HGW;go_wp2_with fail
 refine (V _).mono ?_;rintro e w2 ⟨rfl,hb2⟩;go_wp2_with fail
 refine (L _).mono ?_;rintro e w3 ⟨u,rfl,own,hb3⟩;have hB3:=zAA hb2 hb3;have hz:=hb2.size;go_wp2;go_ret;rw [HRES.out];exact ⟨zAB hGW (zAC hB3 _),u,rfl,zBc own (by omega),hRW.below hB3⟩
theorem zNK (tn lo kp:Nat) (en:Int) (w:World) (t:Wlx.TV) (r:List Wlx.TV) (hok:∀ x ∈ t::r,zAP x) (h:RS tn lo kp en w (t::r) 0 0) (hm0:mkk (t::r) 1 [40]=false) (hm1:mkk (t::r) 1 [33]=false) (ht:t.t=[70,65,76,83,69]) (RES:PR) (hres:RES=.inl ([zAj (zA1 false)],r)) :
  Calls prog 148 #[.pointer (some ⟨kp,0,none⟩),.string ⟨t.t.toArray⟩] w λe w'=>QPost tn lo kp en (t::r).length RES w e w':=by
 obtain ⟨hkl,hlo,h1024⟩:=h.lo;have hkw:kp<w.heap.size:=by omega
 have HRES:Hid (RES=.inl ([zAj (zA1 false)],r)):=hres;have M1:=zAK tn lo kp en w _ 0 0 1 (by omega) [40] h;rw [hm0] at M1;have M2:=zAK tn lo kp en w _ 0 0 1 (by omega) [33] h;rw [hm1] at M2;obtain ⟨a,ha,c1,z1,hRp,hGp⟩:=zAg h;have HRW:Hid (RS tn lo kp en (w.setCell ⟨kp,1,none⟩ (.int .i64 ((a:Int)+1))) r 0 0):=hRp;have HGW:Hid (w.grownBy (w.setCell ⟨kp,1,none⟩ (.int .i64 ((a:Int)+1))) (some kp)):=hGp;have V:=λw=>zDd false w
 have L:=λw=>zBZ (zA1 false) w
 obtain ⟨nl,hnl⟩:∃ nl,(t::r).length=nl:=⟨_,rfl⟩
 rw [hnl,ht];clear hm0 hm1 hres h hRp hGp hnl ht;go_enter func148,ntmps148;go_wp2_with fail
 refine M1.mono ?_;rintro e w1 ⟨rfl,rfl⟩;go_wp2_with fail
 refine M2.mono ?_;rintro e w1 ⟨rfl,rfl⟩;clear M1 M2;go_upto_region 15 with fail
 clear c1 z1;obtain ⟨W,hW⟩:∃ W,w.setCell ⟨kp,1,none⟩ (.int .i64 ((a:Int)+1))=W:=⟨_,rfl⟩
 rw [hW] at HRW HGW ⊢;have hRW:=HRW.out;have hGW:=HGW.out;have hsW:=hGW.size;clear hW HRW HGW;go_wp2_with fail
 refine (V _).mono ?_;rintro e w2 ⟨rfl,hb2⟩;go_wp2_with fail
 refine (L _).mono ?_;rintro e w3 ⟨u,rfl,own,hb3⟩;have hB3:=zAA hb2 hb3;have hz:=hb2.size;go_wp2;go_ret;rw [HRES.out];exact ⟨zAB hGW (zAC hB3 _),u,rfl,zBc own (by omega),hRW.below hB3⟩
def fin (nm:List UInt8) (q:(Nat × List Wt.Nd × List Wlx.TV) ⊕ (Int × Int)):PR:=match q with
 | .inr e=>.inr e
 | .inl (c,rows,r)=>.inl (zBK ⟨nm.toArray⟩ c::rows,r)
def af (sub:List Wlx.TV->PR) (en:Int) (nm:List UInt8) (c:Nat) (rows:List Wt.Nd) (us:List Wlx.TV):PR:=match sub us with
 | .inr e=>.inr e
 | .inl (row,r)=>fin nm (zCD sub en (r.length+1) (c+1) (rows++row) r)
theorem zII {nm:List UInt8} (h:mkk ts 0 [41]=false):zCo sub en nm ts=af sub en nm 0 [] ts:=by
 unfold zCo af;rw [zBJ h];simp only;cases sub ts with
 | inr e=>rfl
 | inl q =>
  obtain ⟨row,r⟩:=q;simp only [List.nil_append,Nat.zero_add];cases zCD sub en (r.length+1) 1 row r with
  | inr e=>rfl
  | inl q=>rfl
theorem zMo {k:List UInt8} (h:zCX t m=true) (hne:(m == k)=false):zCX t k=false:=by
 unfold zCX at h ⊢;simp only [Bool.and_eq_true,beq_iff_eq] at h;rw [h.2,hne,Bool.and_false]
theorem zLV (h:tk ts [41]=some r):zCD sub en (ts.length+1) c rows ts=.inl (c,rows,r):=by
 simp only [zCD,h]
theorem zL3 (h1:mkk ts 0 [41]=false) (h2:mkk ts 0 [44]=false):zCD sub en (ts.length+1) c rows ts=.inr (50,pos ts en):=by
 have hm:zCX (hd ts en) [44]=false:=by
  cases ts with
  | nil=>rfl
  | cons t r=>exact h2
 simp only [zCD,zBJ h1,hm];simp [zBJ h2]
theorem zJG (h:zCX t [44]=true):zCD sub en ((t::r).length+1) 30 rows (t::r)=.inr (3,pos (t::r) en):=by
 have h1:mkk (t::r) 0 [41]=false:=zMo h rfl;have hm:zCX (hd (t::r) en) [44]=true:=h;simp only [zCD,zBJ h1,hm];simp
theorem zJf (hsuf:∀ ts row r,sub ts=.inl (row,r)->r <:+ ts) {en:Int} {nm:List UInt8} {c:Nat} {rows:List Wt.Nd} {t:Wlx.TV} {r:List Wlx.TV} (h:zCX t [44]=true) (hc:¬ c=30):fin nm (zCD sub en ((t::r).length+1) c rows (t::r))=af sub en nm c rows r:=by
 have h1:mkk (t::r) 0 [41]=false:=zMo h rfl;have h2:tk (t::r) [44]=some r:=by simp [tk,h]
 unfold af;simp only [zCD,zBJ h1,h2];rw [if_neg (λx=>hc x.1)];cases hs:sub r with
 | inr e=>rfl
 | inl q =>
  obtain ⟨row,r2⟩:=q;have:=(hsuf _ _ _ hs).length_le;simp only;rw [zFE hsuf en (t::r).length (r2.length+1) (c+1) (rows++row) r2 (by simp only [List.length_cons];omega) (by omega)];rfl
theorem zKD (tn lo kp:Nat) (en:Int) (sub:List Wlx.TV->PR) (n:Nat) (HL:QLv tn lo kp en 0 sub n) (hsuf:∀ ts row r,sub ts=.inl (row,r)->r <:+ ts) (hfit:∀ ts row r2,(∀ t ∈ ts,zAP t)->sub ts=.inl (row,r2)->zE5 ts.length row r2) (t u:Wlx.TV) (r:List Wlx.TV) (w:World) (hn:r.length<=n) (hok:∀ x ∈ t::u::r,zAP x) (h:RS tn lo kp en w (t::u::r) 0 0) (nm:List UInt8) (RES:PR) (hres:RES=zCo sub en nm r) :
  Calls prog 170 #[.pointer (some ⟨kp,0,none⟩),.string ⟨nm.toArray⟩] w λe w'=>QPost tn lo kp en (t::u::r).length RES w e w':=by
 obtain ⟨hkl,hlo,h1024⟩:=h.lo;have hkw:kp<w.heap.size:=by omega
 obtain ⟨a,ha,c1,z1,hRp,hGp⟩:=zGv h;have HRW:Hid (RS tn lo kp en (w.setCell ⟨kp,1,none⟩ (.int .i64 ((a:Int)+2))) r 0 0):=hRp;have HGW:Hid (w.grownBy (w.setCell ⟨kp,1,none⟩ (.int .i64 ((a:Int)+2))) (some kp)):=hGp;have hokr:∀ x ∈ r,zAP x:=λx hx=>hok x (by simp [hx])
 have hrl:r.length<=1022:=by simp only [List.length_cons] at h1024;omega
 obtain ⟨nl,hnl⟩:∃ nl,(t::u::r).length=nl:=⟨_,rfl⟩
 rw [hnl];have SL:∀ (ts:List Wlx.TV) (w:World),ts.length<=n->(∀ t ∈ ts,zAP t)->RS tn lo kp en w ts 0 0->Calls prog 40 #[.pointer (some ⟨kp,0,none⟩),.int .i64 0] w λe w'=>QPost tn lo kp en ts.length (sub ts) w e w':=HL
 clear hRp hGp h hok hnl HL h1024;cases hm:mkk r 0 [41] with
 | true =>
  obtain ⟨t8,r8,hu8,htk8⟩:=zB4 hm;have HQ0:Hid (RES=.inl ([zBK ⟨nm.toArray⟩ 0],r8)):=by show _=_;rw [hres];unfold zCo;rw [htk8]
  clear hres hu8;go_enter func170,ntmps170;go_upto_region 2 with fail
  clear c1 z1;obtain ⟨W,hW⟩:∃ W,w.setCell ⟨kp,1,none⟩ (.int .i64 ((a:Int)+2))=W:=⟨_,rfl⟩
  rw [hW] at HRW HGW ⊢;have hRW:=HRW.out;have hGW:=HGW.out;have M1:=zAK tn lo kp en W _ 0 0 0 (by omega) [41] hRW;rw [hm] at M1;have hownp:OwnN W w.heap.size (.slice none 0 0) []:=World.ownsRow_nil _ _ _ _;have hm9:=hm;clear hW HRW HGW hm;go_wp2_with fail
  refine M1.mono ?_;rintro e w1 ⟨rfl,rfl⟩;clear M1;have ME:=zAK tn lo kp en W _ 0 0 0 (by omega) [41] hRW;rw [hm9] at ME;obtain ⟨t9,r9,hu9,htk9⟩:=zB4 hm9;rw [hu9] at hRW;obtain ⟨a9,ha9,d9,z9,hR9,hG9⟩:=zAg hRW;have HR9:Hid (RS tn lo kp en (W.setCell ⟨kp,1,none⟩ (.int .i64 ((a9:Int)+1))) r9 0 0):=hR9;have HG9:Hid (w.grownBy (W.setCell ⟨kp,1,none⟩ (.int .i64 ((a9:Int)+1))) (some kp)):=zAB hGW hG9;have HO9:Hid (OwnN (W.setCell ⟨kp,1,none⟩ (.int .i64 ((a9:Int)+1))) w.heap.size (.slice none 0 0) ([])):=zA9 hownp hG9 hkw;have HQ9:Hid (RES=.inl ([zBK ⟨nm.toArray⟩ 0]++[],r9)):=by
   show _=_
   rw [HQ0.out];rw [htk8] at htk9;rw [Option.some.inj htk9];rfl
  clear htk8 htk9 HQ0;clear hR9 hG9 hu9;go_wp2_with fail
  refine ME.mono ?_;rintro e w9 ⟨rfl,rfl⟩;clear ME;go_upto_region 15 with fail
  clear d9 z9;obtain ⟨W9,hW9⟩:∃ W9,W.setCell ⟨kp,1,none⟩ (.int .i64 ((a9:Int)+1))=W9:=⟨_,rfl⟩
  rw [hW9] at HR9 HG9 HO9 ⊢;have hR8:=HR9.out;have hG8:=HG9.out;have hO8:=HO9.out;have hs8:=hG8.size;have l8:=hO8.lt;clear hW9 HR9 HG9 HO9;go_wp2_with (first
   | ((with_reducible refine zDY ?_ (.const (.int .i64 6)) (.tmp 54) (.tmp 55) ?_ ⟨nm.toArray⟩ (0) ?_ ?_ ?_ ?_);rfl;rfl;rfl;rfl;first | rfl | simp)
   | ((with_reducible refine zAR ?_ (.tmp 56) ?_ (zBK ⟨nm.toArray⟩ (0)) ?_ ?_);rfl;rfl;rfl)
   | (at_builtin;refine zAL (by rfl) (.tmp 53) (.tmp 57) (by rfl) _ W9.heap.size (by simp) _ [] (by rfl) (World.ownsRow_nil _ _ _ _) _ _ [zBK ⟨nm.toArray⟩ (0)] (by rfl) (zAf W9 _) (λ_=>by simp) ?_))
  intro va wa rowa owna hga hra hva;have hGa:w.grownBy wa (some kp):=zAO (zAB hG8 (World.grownBy_alloc _ _ _)) hga (λb e=>Nat.le_trans hs8 (hra b e));have hRa:=(hR8.row (World.grownBy_alloc W9 _ none) (by simp)).row hga (λb e=>Nat.le_trans (Nat.le_trans hlo hs8) (hra b e));have hOa:OwnN wa w.heap.size (.slice none 0 0) ([]):=zB1 (zBt hO8 (World.grownBy_alloc W9 _ none) (by simp)) (λg e=>(l8 g e).2) hga hra;have hsa:W9.heap.size<=wa.heap.size:=Nat.le_trans (by simp) hga.size;clear hga hra hva hO8 hG8 hR8 l8;go_wp2_with (at_builtin;refine zAL (by rfl) (.tmp 59) (.tmp 60) (by rfl) wa W9.heap.size hsa va [zBK ⟨nm.toArray⟩ (0)] (by rfl) owna (.slice none 0 0) _ ([]) (by rfl) hOa (λ_=>by simp only [List.length_singleton,List.length_nil];omega) ?_)
  intro vd wd rowd ownd hgd hrd _;have hGd:w.grownBy wd (some kp):=zAO hGa hgd (λb e=>Nat.le_trans hs8 (hrd b e));have hRd:=hRa.row hgd (λb e=>Nat.le_trans (Nat.le_trans hlo hs8) (hrd b e));clear hgd hrd hOa owna hGa hRa;go_wp2;go_ret;rw [HQ9.out];exact ⟨hGd,vd,rfl,zBc ownd hs8,hRd⟩
 | false =>
  have HQ0:Hid (RES=af sub en nm 0 [] r):=by show _=_;rw [hres,zII hm]
  clear hres;go_enter func170,ntmps170;go_upto_region 2 with fail
  clear c1 z1;obtain ⟨W,hW⟩:∃ W,w.setCell ⟨kp,1,none⟩ (.int .i64 ((a:Int)+2))=W:=⟨_,rfl⟩
  rw [hW] at HRW HGW ⊢;have M1:=zAK tn lo kp en W _ 0 0 0 (by omega) [41] HRW.out;rw [hm] at M1;clear hW hm;go_wp2_with fail
  refine M1.mono ?_;rintro e w1 ⟨rfl,rfl⟩;clear M1;have HOW:Hid (OwnN W w.heap.size (.slice none 0 0) []):=World.ownsRow_nil _ _ _ _;have HKW:Hid (∀ x ∈ r,zAP x):=hokr;go_wp2_with fail
  go_loopg [5,6] (r.length) (λgk x y wr=>∃ (c:Nat) (rows:List Wt.Nd) (us:List Wlx.TV),x=.int .i64 (c:Int)/\gk=us.length/\c<=29/\us.length<=r.length/\rows.length+us.length<=1022/\Hid (∀ x ∈ us,zAP x)/\Hid (OwnN wr w.heap.size y rows)/\Hid (RS tn lo kp en wr us 0 0)/\Hid (w.grownBy wr (some kp))/\Hid (RES=af sub en nm c rows us))
  case atStart=>exact ⟨0,[],r,rfl,rfl,by omega,Nat.le_refl _,by simpa using hrl,HKW,HOW,HRW,HGW,HQ0⟩
  case round =>
   clear HKW HOW HRW HGW HQ0 hokr;obtain ⟨c,rows,us,rfl,hgk,hc29,hul,hlen,HK,HO,HR,HG,HQ⟩:=hrel;have hci:(c:Int)<=29:=by omega
   have S:=SL us wr (by omega) HK.out HR.out;cases hs:sub us with
   | inr q =>
    obtain ⟨c5,p5⟩:=q;rw [hs] at S;have HQ9:Hid (RES=.inr (c5,p5)):=by show _=_;rw [HQ.out];unfold af;rw [hs]
    clear hs HQ;go_wp2_with fail
    refine S.mono ?_;rintro e w2 ⟨hg2,hc5,vb,row,ts2,rfl,ownb,hrw,hRb⟩;have hG2:w.grownBy w2 (some kp):=zAB HG.out hg2;have hO2:OwnN w2 w.heap.size u6 rows:=zA9 HO.out hg2 hkw;have hs2:=hG2.size;clear S hg2 HG HO HR;go_wp2_with (at_builtin;refine zAL (by rfl) (.tmp 22) (.tmp 23) (by rfl) w2 w.heap.size hs2 u6 rows (by rfl) hO2 vb _ row (by rfl) ownb (λ_=>by omega) ?_)
    intro vc wc rowc ownc hgc hrc _;have hGc:w.grownBy wc (some kp):=zAO hG2 hgc hrc;have hRc:=hRb.row hgc (λb e=>Nat.le_trans hlo (hrc b e));have MC:=zAK tn lo kp en wc _ c5 p5 0 (by omega) [44] hRc;have ME:=zAK tn lo kp en wc _ c5 p5 0 (by omega) [41] hRc;have F:=zKp tn lo kp en 50 c5 p5 hc5 wc _ hRc;have hcd:decide (c5=0)=false:=by simpa using hc5
    rw [hcd,Bool.false_and] at MC ME;clear hgc hrc hO2 ownb hRb hG2 hcd;go_wp2_with fail
    refine MC.mono ?_;rintro e w5 ⟨rfl,rfl⟩;go_wp2_with fail
    refine ME.mono ?_;rintro e w5 ⟨rfl,rfl⟩;go_wp2_with fail
    refine F.mono ?_;rintro e w5 ⟨rfl,rfl⟩;go_wp2;go_ret;rw [HQ9.out];exact ⟨hGc,hc5,_,[],ts2,rfl,World.ownsRow_nil _ _ _ _,by simp,hRc⟩
   | inl q =>
    obtain ⟨row,r2⟩:=q;rw [hs] at S;have hft:=(hfit us row r2 HK.out hs).2;have hsf:=hsuf us row r2 hs;have HQ2:Hid (RES=fin nm (zCD sub en (r2.length+1) (c+1) (rows++row) r2)):=by show _=_;rw [HQ.out];unfold af;rw [hs]
    have HK2:Hid (∀ x ∈ r2,zAP x):=λx hx=>HK.out x (hsf.subset hx)
    have hsl:=hsf.length_le;clear hs HQ HK hsf;go_wp2_with fail
    refine S.mono ?_;rintro e w2 ⟨hg2,vb,rfl,ownb,hRb⟩;have hG2:w.grownBy w2 (some kp):=zAB HG.out hg2;have hO2:OwnN w2 w.heap.size u6 rows:=zA9 HO.out hg2 hkw;have hs2:=hG2.size;clear S hg2 HG HO HR;go_wp2_with (at_builtin;refine zAL (by rfl) (.tmp 22) (.tmp 23) (by rfl) w2 w.heap.size hs2 u6 rows (by rfl) hO2 vb _ row (by rfl) ownb (λ_=>by omega) ?_)
    intro vc wc rowc ownc hgc hrc _;have hGc:w.grownBy wc (some kp):=zAO hG2 hgc hrc;have hRc:=hRb.row hgc (λb e=>Nat.le_trans hlo (hrc b e));have MC:=zAK tn lo kp en wc _ 0 0 0 (by omega) [44] hRc;clear hgc hrc hO2 ownb hRb hG2;cases hmc:mkk r2 0 [44] with
    | true =>
     rw [hmc] at MC;obtain ⟨t5,r5,hu5,-⟩:=zB4 hmc;subst hu5;by_cases hc30:c=29
     ·subst hc30;have F:=zAw tn lo kp en 3 wc _ hRc;have HQ9:Hid (RES=.inr (3,pos (t5::r5) en)):=by show _=_;rw [HQ2.out,zJG hmc];rfl
      go_wp2_with fail
      refine MC.mono ?_;rintro e w5 ⟨rfl,rfl⟩;go_wp2_with fail
      refine F.mono ?_;rintro e w6 ⟨rfl,hR6,hg6⟩;go_wp2;go_ret;rw [HQ9.out];exact ⟨zAB hGc hg6,by decide,_,[],_,rfl,World.ownsRow_nil _ _ _ _,by simp,hR6⟩
     ·have hc30b:(((c:Int)+1) == 30)=false:=by simp;omega
      obtain ⟨a9,ha9,d9,z9,hR9,hG9⟩:=zAg hRc;have HR9:Hid (RS tn lo kp en (wc.setCell ⟨kp,1,none⟩ (.int .i64 ((a9:Int)+1))) r5 0 0):=hR9;have HG9:Hid (w.grownBy (wc.setCell ⟨kp,1,none⟩ (.int .i64 ((a9:Int)+1))) (some kp)):=zAB hGc hG9;have HO9:Hid (OwnN (wc.setCell ⟨kp,1,none⟩ (.int .i64 ((a9:Int)+1))) w.heap.size vc (rows++row)):=zA9 ownc hG9 hkw;have HQ9:Hid (RES=af sub en nm (c+1) (rows++row) r5):=by show _=_;rw [HQ2.out,zJf hsuf hmc (by omega)]
      have HK9:Hid (∀ x ∈ r5,zAP x):=λx hx=>HK2.out x (List.mem_cons_of_mem _ hx)
      simp only [List.length_cons] at hft hsl;clear hR9 hG9 hRc hGc ownc HQ2 HK2;go_wp2_with fail
      refine MC.mono ?_;rintro e w5 ⟨rfl,rfl⟩;clear MC;go_wp2_with fail
      go_roundg (r5.length)
      case rel=>exact ⟨c+1,rows++row,r5,by simp,rfl,by omega,by omega,by rw [List.length_append];omega,HK9,HO9,HR9,HG9,HQ9⟩
      case measure=>omega
    | false =>
     rw [hmc] at MC;cases hm9:mkk r2 0 [41] with
     | true =>
      go_wp2_with fail
      refine MC.mono ?_;rintro e w5 ⟨rfl,rfl⟩;clear MC;have ME:=zAK tn lo kp en wc _ 0 0 0 (by omega) [41] hRc;rw [hm9] at ME;obtain ⟨t9,r9,hu9,htk9⟩:=zB4 hm9;rw [hu9] at hRc;obtain ⟨a9,ha9,d9,z9,hR9,hG9⟩:=zAg hRc;have HR9:Hid (RS tn lo kp en (wc.setCell ⟨kp,1,none⟩ (.int .i64 ((a9:Int)+1))) r9 0 0):=hR9;have HG9:Hid (w.grownBy (wc.setCell ⟨kp,1,none⟩ (.int .i64 ((a9:Int)+1))) (some kp)):=zAB hGc hG9;have HO9:Hid (OwnN (wc.setCell ⟨kp,1,none⟩ (.int .i64 ((a9:Int)+1))) w.heap.size vc (rows++row)):=zA9 ownc hG9 hkw;have HQ9:Hid (RES=.inl ([zBK ⟨nm.toArray⟩ (c+1)]++(rows++row),r9)):=by
       show _=_
       rw [HQ2.out,zLV htk9];rfl
      clear htk9 HQ2;clear hR9 hG9 hu9;go_wp2_with fail
      refine ME.mono ?_;rintro e w9 ⟨rfl,rfl⟩;clear ME;go_upto_region 15 with fail
      clear d9 z9;obtain ⟨W9,hW9⟩:∃ W9,wc.setCell ⟨kp,1,none⟩ (.int .i64 ((a9:Int)+1))=W9:=⟨_,rfl⟩
      rw [hW9] at HR9 HG9 HO9 ⊢;have hR8:=HR9.out;have hG8:=HG9.out;have hO8:=HO9.out;have hs8:=hG8.size;have l8:=hO8.lt;clear hW9 HR9 HG9 HO9;go_wp2_with (first
       | ((with_reducible refine zDY ?_ (.const (.int .i64 6)) (.tmp 54) (.tmp 55) ?_ ⟨nm.toArray⟩ (c+1) ?_ ?_ ?_ ?_);rfl;rfl;rfl;rfl;first | rfl | simp)
       | ((with_reducible refine zAR ?_ (.tmp 56) ?_ (zBK ⟨nm.toArray⟩ (c+1)) ?_ ?_);rfl;rfl;rfl)
       | (at_builtin;refine zAL (by rfl) (.tmp 53) (.tmp 57) (by rfl) _ W9.heap.size (by simp) _ [] (by rfl) (World.ownsRow_nil _ _ _ _) _ _ [zBK ⟨nm.toArray⟩ (c+1)] (by rfl) (zAf W9 _) (λ_=>by simp) ?_))
      intro va wa rowa owna hga hra hva;have hGa:w.grownBy wa (some kp):=zAO (zAB hG8 (World.grownBy_alloc _ _ _)) hga (λb e=>Nat.le_trans hs8 (hra b e));have hRa:=(hR8.row (World.grownBy_alloc W9 _ none) (by simp)).row hga (λb e=>Nat.le_trans (Nat.le_trans hlo hs8) (hra b e));have hOa:OwnN wa w.heap.size vc (rows++row):=zB1 (zBt hO8 (World.grownBy_alloc W9 _ none) (by simp)) (λg e=>(l8 g e).2) hga hra;have hsa:W9.heap.size<=wa.heap.size:=Nat.le_trans (by simp) hga.size;clear hga hra hva hO8 hG8 hR8 l8;go_wp2_with (at_builtin;refine zAL (by rfl) (.tmp 59) (.tmp 60) (by rfl) wa W9.heap.size hsa va [zBK ⟨nm.toArray⟩ (c+1)] (by rfl) owna vc _ (rows++row) (by rfl) hOa (λ_=>by simp only [List.length_singleton,List.length_append];omega) ?_)
      intro vd wd rowd ownd hgd hrd _;have hGd:w.grownBy wd (some kp):=zAO hGa hgd (λb e=>Nat.le_trans hs8 (hrd b e));have hRd:=hRa.row hgd (λb e=>Nat.le_trans (Nat.le_trans hlo hs8) (hrd b e));clear hgd hrd hOa owna hGa hRa;go_wp2;go_ret;rw [HQ9.out];exact ⟨hGd,vd,rfl,zBc ownd hs8,hRd⟩
     | false =>
      have ME:=zAK tn lo kp en wc _ 0 0 0 (by omega) [41] hRc;rw [hm9] at ME;have F:=zAw tn lo kp en 50 wc _ hRc;have HQ9:Hid (RES=.inr (50,pos r2 en)):=by show _=_;rw [HQ2.out,zL3 hm9 hmc];rfl
      go_wp2_with fail
      refine MC.mono ?_;rintro e w5 ⟨rfl,rfl⟩;go_wp2_with fail
      refine ME.mono ?_;rintro e w5 ⟨rfl,rfl⟩;go_wp2_with fail
      refine F.mono ?_;rintro e w6 ⟨rfl,hR6,hg6⟩;go_wp2;go_ret;rw [HQ9.out];exact ⟨zAB hGc hg6,by decide,_,[],_,rfl,World.ownsRow_nil _ _ _ _,by simp,hR6⟩
open Go.Shelf Go.RowKit
abbrev zEr (w:World) (base:Nat) (v:Value) (l:List UInt8):Prop:=w.ownsRow base 5 1 v l.length (Lib.byteCells l)
theorem zDo:(prog.info? 5).map (λi=>(i.zero,i.size,i.bytes))=some (some (.int .u8 0),1,1):=by kernel_rfl
theorem zAs {c:UInt8} {n:Nat} (h:w.ownsRow B 5 1 v (l.length+1) (Lib.byteCells l++[.int .u8 ((c.toNat:Nat):Int)])):zEr w B v (l++[c]):=by
 show w.ownsRow B 5 1 v (l++[c]).length (Lib.byteCells (l++[c]))
 rw [List.length_append,Lib.byteCells_append];exact h
theorem zFF (h:zEr w B v l):(convert 82 9 v).run prog w=.ok (.string ⟨l.toArray⟩) w:=by
 rcases h.2 with ⟨rfl,hn⟩ | ⟨g,cap,cur,rfl,_⟩
 ·obtain rfl:=List.eq_nil_of_length_eq_zero hn;exact run_convert_bytes_nil (P:=prog) w 82 5 underlying82 underlying5 0 0 9 underlying9
 ·exact run_convert_bytes_back (P:=prog) w 82 9 5 ⟨g,0,none⟩ cap l underlying82 underlying5 underlying9 (λj hj=>by
   have:=h.cells (g:=g) rfl j (.int .u8 ((l[j]).toNat:Nat)) (by simp [Lib.byteCells,hj]);exact this)
theorem zA3 (w:World) (a:Value) (t:TypeId):∀ j u,[a][j]? = some u->(w.alloc (.cells #[a] t)).cell? ((⟨w.heap.size,0,none⟩:Addr).add j)=some u:=by
 intro j u hj;match j,hj with
 | 0,hj=>simp at hj;subst hj;simp [Addr.add]
 | j+1,hj=>simp at hj
theorem zAd {W w':World} {xs:List Value} {o:Obj} (hb:Below B w W) (hB:B<=W.heap.size) (hown:W.ownsRow B 5 1 v n xs) (hg:(W.alloc o).grownBy w' v.ownBlock):Below B w w' :=
 (hb.alloc hB o).grown hg (by simp;omega) (λk hk=>(hown.lt k hk).1)
theorem zIx (b:ByteArray) (w:World) (hs:b.size<=1048576):CR 64 #[.string b] w (.string ⟨(34::(Wlx.dbl b.data.toList++[34])).toArray⟩):=by
 obtain ⟨i0,hi,hz0,hz1,hz2⟩:=info_parts zDo;have hbl:Hid (b.data.toList.length=b.size):=(rfl:b.data.toList.length=b.size)
 have own0:zEr w w.heap.size (.slice none 0 0) []:=World.ownsRow_nil _ _ _ _;go_enter func64,ntmps64;go_wp2_with (at_builtin;refine wpList_append_own _ rfl _ _ 82 rfl w.heap.size 5 i0 (.int .u8 0) 1 1 underlying82 hi hz0 hz1 hz2 rfl (by decide) _ _ _ rfl (own0.alloc _) ⟨w.heap.size,0,none⟩ 1 1 [.int .u8 34] rfl rfl (zA3 _ _ _) (by intro u hu;simp at hu;subst hu;rfl) (by unfold maxLen;simp) (by simp) (by simp) ?_)
 intro v1 w1 hown1 hgrow1 _;have hb1:=zAd (Below.refl _ w) (Nat.le_refl _) own0 hgrow1;have own1:zEr w1 w.heap.size v1 ([]++[34]):=zAs (n:=0) hown1;have HO1:Hid (zEr w1 w.heap.size v1 (34::Wlx.dbl (b.data.toList.take 0))):=own1;clear hown1 hgrow1 own1 own0;go_wp2_with fail
 go_loopg [3,4] (b.size) (λgk x y wr=>∃ i:Nat,y=.int .i64 i/\gk=b.size - i/\i<=b.size/\Hid (zEr wr w.heap.size x (34::Wlx.dbl (b.data.toList.take i)))/\Below w.heap.size w wr)
 case atStart=>exact ⟨0,rfl,rfl,Nat.zero_le _,HO1,hb1⟩
 case round =>
  clear HO1 hb1;obtain ⟨i,rfl,hg,hi1,HO,hb⟩:=hrel;have sw:=hb.size;by_cases hlt:i<b.size
  ·have hli:(i:Int)<(b.size:Int):=by omega
   have hil:i<b.data.toList.length:=hlt;have etk:b.data.toList.take (i+1)=b.data.toList.take i++[b[i]]:=List.take_succ_eq_append_getElem hil;have hdl:(Wlx.dbl (b.data.toList.take i)).length<=2097152:=by
    have:=Wlx.dbl_length (b.data.toList.take i);rw [List.length_take] at this;have:=hbl.out;omega
   obtain ⟨d,hd⟩:∃ d,Wlx.dbl (b.data.toList.take i)=d:=⟨_,rfl⟩
   have own:=HO.out;rw [hd] at own hdl;obtain ⟨c,hc⟩:∃ c,b[i]=c:=⟨_,rfl⟩
   by_cases h34:c=34
   ·have HD:Hid (Wlx.dbl (b.data.toList.take (i+1))=d++[34]++[34]):=by
     show _=_
     rw [etk,Wlx.dbl_app,hd,hc,h34];simp [Wlx.dbl]
    have eb:(((b[i]).toNat:Nat):Int)=34:=by rw [hc,h34];rfl
    clear HO hd etk hc h34;go_wp2_with (at_builtin;refine wpList_append_own _ rfl _ _ 82 rfl w.heap.size 5 i0 (.int .u8 0) 1 1 underlying82 hi hz0 hz1 hz2 rfl (by decide) _ _ _ rfl (own.alloc _) ⟨wr.heap.size,0,none⟩ 1 1 [.int .u8 34] rfl rfl (zA3 _ _ _) (by intro u hu;simp at hu;subst hu;rfl) (by unfold maxLen;simp;omega) (by simp;omega) (by simp;omega) ?_)
    intro v2 w2 hown2 hgrow2 _;have hb2:=zAd hb sw own hgrow2;have own2:zEr w2 w.heap.size v2 (34::d++[34]):=zAs (n:=0) hown2;have sw2:=hb2.size;clear hown2 hgrow2 own;have hl2:(34::d++[34]).length<=2097160:=by simp;omega
    obtain ⟨e2,he2⟩:∃ e2,34::d++[34]=e2:=⟨_,rfl⟩
    rw [he2] at own2 hl2;have HD2:Hid (34::Wlx.dbl (b.data.toList.take (i+1))=e2++[34]):=by show _=_;rw [HD.out,<-he2];simp
    clear he2 HD;go_wp2_with (at_builtin;refine wpList_append_own _ rfl _ _ 82 rfl w.heap.size 5 i0 (.int .u8 0) 1 1 underlying82 hi hz0 hz1 hz2 rfl (by decide) _ _ _ rfl (own2.alloc _) ⟨w2.heap.size,0,none⟩ 1 1 [.int .u8 34] rfl rfl (zA3 _ _ _) (by intro u hu;simp at hu;subst hu;rfl) (by unfold maxLen;simp;omega) (by simp;omega) (by simp;omega) ?_)
    intro v3 w3 hown3 hgrow3 _;have hb3:=zAd hb2 sw2 own2 hgrow3;have HO3:Hid (zEr w3 w.heap.size v3 (34::Wlx.dbl (b.data.toList.take (i+1)))):=by
     show zEr _ _ _ _
     rw [HD2.out];exact zAs (n:=0) hown3
    clear hown3 hgrow3 own2;go_wp2_with fail
    go_roundg (b.size - (i+1))
    case rel=>exact ⟨i+1,by simp,rfl,hlt,HO3,hb3⟩
    case measure=>omega
   ·have HD2:Hid (34::Wlx.dbl (b.data.toList.take (i+1))=(34::d)++[c]):=by
     show _=_
     have:Wlx.dbl [c]=[c]:=by
      show (if c=34 then 34::34::Wlx.dbl [] else c::Wlx.dbl [])=_
      rw [if_neg h34];rfl
     rw [etk,Wlx.dbl_app,hd,hc,this];rfl
    have eb0:(((b[i]).toNat:Nat):Int)=((c.toNat:Nat):Int):=by rw [hc]
    have eb:(((c.toNat:Nat):Int) == 34)=false:=by
     refine beq_eq_false_iff_ne.2 (λe=>h34 ?_);have:c.toNat=34:=by omega
     exact UInt8.toNat_inj.1 this
    clear HO hd etk hc h34;go_wp2_with (at_builtin;refine wpList_append_own _ rfl _ _ 82 rfl w.heap.size 5 i0 (.int .u8 0) 1 1 underlying82 hi hz0 hz1 hz2 rfl (by decide) _ _ _ rfl (own.alloc _) ⟨wr.heap.size,0,none⟩ 1 1 [.int .u8 ((c.toNat:Nat):Int)] rfl rfl (zA3 _ _ _) (by intro u hu;simp at hu;subst hu;rfl) (by unfold maxLen;simp;omega) (by simp;omega) (by simp;omega) ?_)
    intro v3 w3 hown3 hgrow3 _;have hb3:=zAd hb sw own hgrow3;have HO3:Hid (zEr w3 w.heap.size v3 (34::Wlx.dbl (b.data.toList.take (i+1)))):=by
     show zEr _ _ _ _
     rw [HD2.out];exact zAs (n:=0) hown3
    clear hown3 hgrow3 own;go_wp2_with fail
    go_roundg (b.size - (i+1))
    case rel=>exact ⟨i+1,by simp,rfl,hlt,HO3,hb3⟩
    case measure=>omega
  ·have hli:¬ (i:Int)<(b.size:Int):=by omega
   have own:=HO.out;rw [List.take_of_length_le (by have:=hbl.out;omega)] at own;have hdl:(Wlx.dbl b.data.toList).length<=2097152:=by
    have:=Wlx.dbl_length b.data.toList;have:=hbl.out;omega
   obtain ⟨d,hd⟩:∃ d,Wlx.dbl b.data.toList=d:=⟨_,rfl⟩
   have HD:Hid (Wlx.dbl b.data.toList=d):=hd;rw [hd] at own hdl;clear HO hd;go_wp2_with (at_builtin;refine wpList_append_own _ rfl _ _ 82 rfl w.heap.size 5 i0 (.int .u8 0) 1 1 underlying82 hi hz0 hz1 hz2 rfl (by decide) _ _ _ rfl (own.alloc _) ⟨wr.heap.size,0,none⟩ 1 1 [.int .u8 34] rfl rfl (zA3 _ _ _) (by intro u hu;simp at hu;subst hu;rfl) (by unfold maxLen;simp;omega) (by simp;omega) (by simp;omega) ?_)
   intro v2 w2 hown2 hgrow2 _;have hb2:=zAd hb sw own hgrow2;have own2:zEr w2 w.heap.size v2 (34::d++[34]):=zAs (n:=0) hown2;have hcv:=zFF own2;clear hown2 hgrow2 own own2;go_wp2;go_ret;exact ⟨by rw [HD.out];rfl,hb2⟩
