/- TQSig, TQOp. -/
import Derived.Test.YtdghjlmnlodnlaaGreatDoorQ33
set_option maxHeartbeats 3200000
set_option maxRecDepth 100000
namespace Go.Proofs.YtdghjlmnlodnlaaGreatDoor
open Go.RowKit Go.Shelf Tryz
set_option linter.unusedVariables false
variable {w:World} {tn kp:Nat} {en:Int}
def QFn (tn lo kp:Nat) (en:Int) (fn:Nat) (sub:List Wlx.TV->PR) (n:Nat):Prop:=∀ (ts:List Wlx.TV) (w:World),ts.length<=n->(∀ t ∈ ts,zAP t)->RS tn lo kp en w ts 0 0->Calls prog fn #[.pointer (some ⟨kp,0,none⟩)] w λe w'=>QPost tn lo kp en ts.length (sub ts) w e w'
def QLv (tn lo kp:Nat) (en:Int) (k:Nat) (sub:List Wlx.TV->PR) (n:Nat):Prop:=∀ (ts:List Wlx.TV) (w:World),ts.length<=n->(∀ t ∈ ts,zAP t)->RS tn lo kp en w ts 0 0->Calls prog 40 #[.pointer (some ⟨kp,0,none⟩),.int .i64 (k:Int)] w λe w'=>QPost tn lo kp en ts.length (sub ts) w e w'
theorem RS.lo {lo:Nat} {ts:List Wlx.TV} {E Bad:Int} (h:RS tn lo kp en w ts E Bad):kp<lo/\lo<=w.heap.size/\ts.length<=1024:=by
 obtain ⟨av,cap,T,a,rfl,h2,h3,h4,h5,h6,h7,h8⟩:=h;exact ⟨h4,h5,by rw [List.length_drop];omega⟩
theorem QPost.val {lo:Nat} {n:Nat} {r:PR} {e:Ending} {w':World} (h:QPost tn lo kp en n r w e w'):∃ v,e=.returned v:=by
 obtain ⟨-,h⟩:=h;cases r with
 | inl q=>obtain ⟨v,e,-⟩:=h;exact ⟨v,e⟩
 | inr q=>obtain ⟨-,v,_,_,e,-⟩:=h;exact ⟨v,e⟩
theorem zDQ {fn:Nat} {xs:Array Value} {P:Ending->World->Prop} {G:Prop} (h:Calls prog fn xs w P) (hv:(Calls prog fn xs w λe w'=>(∃ v,e=.returned v)/\P e w')->G) (hp:∀ e w',P e w'->∃ v,e=.returned v):G:=hv (h.mono λe w' q=>⟨hp e w' q,q⟩)
theorem zJP (ts:List Wlx.TV):(∃ t r,ts=t::r/\mkk ts 0 [45]=true/\zB2 5 ts=some ((1,[45],5),r)) \/ (∃ t r,ts=t::r/\mkk ts 0 [45]=false/\mkk ts 0 [43]=true/\zB2 5 ts=some ((2,[43],5),r)) \/ (mkk ts 0 [45]=false/\mkk ts 0 [43]=false/\zB2 5 ts=none):=by
 cases ts with
 | nil=>exact Or.inr (Or.inr ⟨rfl,rfl,rfl⟩)
 | cons t r =>
  have e0:∀ m,mkk (t::r) 0 m=zC3 t m:=λm=>rfl
  simp only [e0];unfold zB2 zC3;by_cases hk:t.k=5
  ·simp only [hk,beq_self_eq_true,Bool.true_and,if_true];by_cases h1:t.t=[45]
   ·rw [h1];exact Or.inl ⟨t,r,rfl,rfl,by rfl⟩
   by_cases h2:t.t=[43]
   ·rw [h2];exact Or.inr (Or.inl ⟨t,r,rfl,rfl,rfl,by rfl⟩)
   ·have g1:(t.t == [45])=false:=by simpa using h1
    have g2:(t.t == [43])=false:=by simpa using h2
    refine Or.inr (Or.inr ⟨g1,g2,?_⟩);have e1:([45] == t.t)=false:=by simpa using λh=>h1 h.symm
    have e2:([43] == t.t)=false:=by simpa using λh=>h2 h.symm
    have:Wt.opAs t.t 5=none:=by
     unfold Wt.opAs Wt.opsT;simp [e1,e2]
    rw [this];rfl
  ·have:(t.k == 5)=false:=by simp [hk]
   simp only [if_neg hk,this];exact Or.inr (Or.inr ⟨by simp,by simp,trivial⟩)
theorem zIu (tn lo kp:Nat) (en:Int) (sub5:List Wlx.TV->PR) (n:Nat) (HS:QFn tn lo kp en 61 sub5 n) (t:Wlx.TV) (r:List Wlx.TV) (w:World) (hn:r.length<=n) (hok:∀ x ∈ t::r,zAP x) (hfit:∀ row r2,sub5 r=.inl (row,r2)->row.length<=1024) (h:RS tn lo kp en w (t::r) 0 0) (hm:mkk (t::r) 0 [45]=true) :
  Calls prog 61 #[.pointer (some ⟨kp,0,none⟩)] w λe w'=>QPost tn lo kp en (t::r).length (match sub5 r with | .inr e=>.inr e | .inl (row,r2)=>.inl (opN 4 1::row,r2)) w e w':=by
 obtain ⟨hkl,hlo,h1024⟩:=h.lo;have M1:=zAL tn lo kp en w _ 0 0 0 (by omega) [45] h;rw [hm] at M1;obtain ⟨a,ha,c1,z1,hR,hG⟩:=zAh h;have hkw:kp<w.heap.size:=by omega
 have HR:Hid (RS tn lo kp en (w.setCell ⟨kp,1,none⟩ (.int .i64 ((a:Int)+1))) r 0 0):=hR;have HG:Hid (w.grownBy (w.setCell ⟨kp,1,none⟩ (.int .i64 ((a:Int)+1))) (some kp)):=hG;have hrl:r.length<=1023:=by simp only [List.length_cons] at h1024;omega
 have hok2:∀ x ∈ r,zAP x:=λx hx=>hok x (List.mem_cons_of_mem _ hx)
 have hln:(t::r).length=r.length+1:=rfl;rw [hln];clear hR hG hm h hln h1024 hok;cases hs:sub5 r with
 | inl q =>
  obtain ⟨row,rest⟩:=q;go_enter func61,ntmps61;go_wp2_with fail
  refine M1.mono ?_;rintro e w1 ⟨rfl,rfl⟩;clear M1;go_upto_region 8 with fail
  obtain ⟨W,hW⟩:∃ W,w.setCell ⟨kp,1,none⟩ (.int .i64 ((a:Int)+1))=W:=⟨_,rfl⟩
  rw [hW] at HR HG ⊢;have hR:=HR.out;have hG:=HG.out;have hsW:=hG.size;clear hW HR HG c1 z1;go_wp2_with (first
   | ((with_reducible refine zAw ?_ (.const (.int .i64 4)) (.tmp 27) ?_ 4 1 ?_ ?_ ?_);rfl;rfl;rfl;rfl)
   | ((with_reducible refine zAR ?_ (.tmp 28) ?_ (opN 4 1) ?_ ?_);rfl;rfl;rfl)
   | (at_builtin;refine zAM (by rfl) (.tmp 26) (.tmp 29) (by rfl) _ w.heap.size (by simp only [World.size_alloc];omega) _ [] (by rfl) (World.ownsRow_nil _ _ _ _) _ _ [opN 4 1] (by rfl) (zAf W (opN 4 1)) (λ_=>by simp) ?_))
  intro va wa rowa owna hga hra hva;have hGa:w.grownBy wa (some kp):=zAO (zAB hG (World.grownBy_alloc _ _ _)) hga hra;have hRa:=(hR.row (World.grownBy_alloc W _ none) (by simp)).row hga (λb e=>Nat.le_trans hlo (hra b e));have hsa:=hGa.size;have S:=HS r wa hn hok2 hRa;rw [hs] at S;clear hga hra hva hR hG HS;go_wp2_with fail
  refine S.mono ?_;rintro e w2 ⟨hg2,vb,rfl,ownb,hRb⟩;have hG2:w.grownBy w2 (some kp):=zAB hGa hg2;have hs2:=hg2.size;have own2:=zAb owna hg2 hkw;clear S owna hGa hg2;have hrw:=hfit row rest hs;clear hfit hs;go_wp2_with (at_builtin;refine zAM (by rfl) (.tmp 33) (.tmp 34) (by rfl) w2 w.heap.size (by omega) va [opN 4 1] (by rfl) own2 vb _ row (by rfl) ownb (λ_=>by simp only [List.length_singleton];omega) ?_)
  intro vc wc rowc ownc hgc hrc _;have hGc:w.grownBy wc (some kp):=zAO hG2 hgc hrc;have hRc:=hRb.row hgc (λb e=>Nat.le_trans hlo (hrc b e));clear own2 ownb hgc hrc;go_wp2;go_ret;exact ⟨hGc,vc,rfl,ownc,hRc⟩
 | inr q =>
  obtain ⟨c,p⟩:=q;go_enter func61,ntmps61;go_wp2_with fail
  refine M1.mono ?_;rintro e w1 ⟨rfl,rfl⟩;clear M1;go_upto_region 8 with fail
  obtain ⟨W,hW⟩:∃ W,w.setCell ⟨kp,1,none⟩ (.int .i64 ((a:Int)+1))=W:=⟨_,rfl⟩
  rw [hW] at HR HG ⊢;have hR:=HR.out;have hG:=HG.out;have hsW:=hG.size;clear hW HR HG c1 z1;go_wp2_with (first
   | ((with_reducible refine zAw ?_ (.const (.int .i64 4)) (.tmp 27) ?_ 4 1 ?_ ?_ ?_);rfl;rfl;rfl;rfl)
   | ((with_reducible refine zAR ?_ (.tmp 28) ?_ (opN 4 1) ?_ ?_);rfl;rfl;rfl)
   | (at_builtin;refine zAM (by rfl) (.tmp 26) (.tmp 29) (by rfl) _ w.heap.size (by simp only [World.size_alloc];omega) _ [] (by rfl) (World.ownsRow_nil _ _ _ _) _ _ [opN 4 1] (by rfl) (zAf W (opN 4 1)) (λ_=>by simp) ?_))
  intro va wa rowa owna hga hra hva;have hGa:w.grownBy wa (some kp):=zAO (zAB hG (World.grownBy_alloc _ _ _)) hga hra;have hRa:=(hR.row (World.grownBy_alloc W _ none) (by simp)).row hga (λb e=>Nat.le_trans hlo (hra b e));have hsa:=hGa.size;have S:=HS r wa hn hok2 hRa;rw [hs] at S;clear hga hra hva hR hG HS;go_wp2_with fail
  refine S.mono ?_;rintro e w2 ⟨hg2,hc,vb,row,ts2,rfl,ownb,hrw,hRb⟩;have hG2:w.grownBy w2 (some kp):=zAB hGa hg2;have hs2:=hg2.size;have own2:=zAb owna hg2 hkw;clear S owna hGa hg2;clear hfit hs;go_wp2_with (at_builtin;refine zAM (by rfl) (.tmp 33) (.tmp 34) (by rfl) w2 w.heap.size (by omega) va [opN 4 1] (by rfl) own2 vb _ row (by rfl) ownb (λ_=>by simp only [List.length_singleton];omega) ?_)
  intro vc wc rowc ownc hgc hrc _;have hGc:w.grownBy wc (some kp):=zAO hG2 hgc hrc;have hRc:=hRb.row hgc (λb e=>Nat.le_trans hlo (hrc b e));clear own2 ownb hgc hrc;go_wp2;go_ret;exact ⟨hGc,hc,vc,_,ts2,rfl,ownc,by simp only [List.length_cons];omega,hRc⟩
theorem zKy (tn lo kp:Nat) (en:Int) (sub5:List Wlx.TV->PR) (n:Nat) (HS:QFn tn lo kp en 61 sub5 n) (t:Wlx.TV) (r:List Wlx.TV) (w:World) (hn:r.length<=n) (hok:∀ x ∈ t::r,zAP x) (hfit:∀ row r2,sub5 r=.inl (row,r2)->row.length<=1024) (h:RS tn lo kp en w (t::r) 0 0) (hm0:mkk (t::r) 0 [45]=false) (hm:mkk (t::r) 0 [43]=true) :
  Calls prog 61 #[.pointer (some ⟨kp,0,none⟩)] w λe w'=>QPost tn lo kp en (t::r).length (match sub5 r with | .inr e=>.inr e | .inl (row,r2)=>.inl (opN 4 2::row,r2)) w e w':=by
 obtain ⟨hkl,hlo,h1024⟩:=h.lo;have M1:=zAL tn lo kp en w _ 0 0 0 (by omega) [45] h;rw [hm0] at M1;have M2:=zAL tn lo kp en w _ 0 0 0 (by omega) [43] h;rw [hm] at M2;obtain ⟨a,ha,c1,z1,hR,hG⟩:=zAh h;have hkw:kp<w.heap.size:=by omega
 have HR:Hid (RS tn lo kp en (w.setCell ⟨kp,1,none⟩ (.int .i64 ((a:Int)+1))) r 0 0):=hR;have HG:Hid (w.grownBy (w.setCell ⟨kp,1,none⟩ (.int .i64 ((a:Int)+1))) (some kp)):=hG;have hrl:r.length<=1023:=by simp only [List.length_cons] at h1024;omega
 have hok2:∀ x ∈ r,zAP x:=λx hx=>hok x (List.mem_cons_of_mem _ hx)
 have hln:(t::r).length=r.length+1:=rfl;rw [hln];clear hR hG hm h hln h1024 hok;cases hs:sub5 r with
 | inl q =>
  obtain ⟨row,rest⟩:=q;go_enter func61,ntmps61;go_wp2_with fail
  refine M1.mono ?_;rintro e w1 ⟨rfl,rfl⟩;clear M1;go_wp2_with fail
  refine M2.mono ?_;rintro e w1 ⟨rfl,rfl⟩;clear M2;go_upto_region 8 with fail
  obtain ⟨W,hW⟩:∃ W,w.setCell ⟨kp,1,none⟩ (.int .i64 ((a:Int)+1))=W:=⟨_,rfl⟩
  rw [hW] at HR HG ⊢;have hR:=HR.out;have hG:=HG.out;have hsW:=hG.size;clear hW HR HG c1 z1;go_wp2_with (first
   | ((with_reducible refine zAw ?_ (.const (.int .i64 4)) (.tmp 27) ?_ 4 2 ?_ ?_ ?_);rfl;rfl;rfl;rfl)
   | ((with_reducible refine zAR ?_ (.tmp 28) ?_ (opN 4 2) ?_ ?_);rfl;rfl;rfl)
   | (at_builtin;refine zAM (by rfl) (.tmp 26) (.tmp 29) (by rfl) _ w.heap.size (by simp only [World.size_alloc];omega) _ [] (by rfl) (World.ownsRow_nil _ _ _ _) _ _ [opN 4 2] (by rfl) (zAf W (opN 4 2)) (λ_=>by simp) ?_))
  intro va wa rowa owna hga hra hva;have hGa:w.grownBy wa (some kp):=zAO (zAB hG (World.grownBy_alloc _ _ _)) hga hra;have hRa:=(hR.row (World.grownBy_alloc W _ none) (by simp)).row hga (λb e=>Nat.le_trans hlo (hra b e));have hsa:=hGa.size;have S:=HS r wa hn hok2 hRa;rw [hs] at S;clear hga hra hva hR hG HS;go_wp2_with fail
  refine S.mono ?_;rintro e w2 ⟨hg2,vb,rfl,ownb,hRb⟩;have hG2:w.grownBy w2 (some kp):=zAB hGa hg2;have hs2:=hg2.size;have own2:=zAb owna hg2 hkw;clear S owna hGa hg2;have hrw:=hfit row rest hs;clear hfit hs;go_wp2_with (at_builtin;refine zAM (by rfl) (.tmp 33) (.tmp 34) (by rfl) w2 w.heap.size (by omega) va [opN 4 2] (by rfl) own2 vb _ row (by rfl) ownb (λ_=>by simp only [List.length_singleton];omega) ?_)
  intro vc wc rowc ownc hgc hrc _;have hGc:w.grownBy wc (some kp):=zAO hG2 hgc hrc;have hRc:=hRb.row hgc (λb e=>Nat.le_trans hlo (hrc b e));clear own2 ownb hgc hrc;go_wp2;go_ret;exact ⟨hGc,vc,rfl,ownc,hRc⟩
 | inr q =>
  obtain ⟨c,p⟩:=q;go_enter func61,ntmps61;go_wp2_with fail
  refine M1.mono ?_;rintro e w1 ⟨rfl,rfl⟩;clear M1;go_wp2_with fail
  refine M2.mono ?_;rintro e w1 ⟨rfl,rfl⟩;clear M2;go_upto_region 8 with fail
  obtain ⟨W,hW⟩:∃ W,w.setCell ⟨kp,1,none⟩ (.int .i64 ((a:Int)+1))=W:=⟨_,rfl⟩
  rw [hW] at HR HG ⊢;have hR:=HR.out;have hG:=HG.out;have hsW:=hG.size;clear hW HR HG c1 z1;go_wp2_with (first
   | ((with_reducible refine zAw ?_ (.const (.int .i64 4)) (.tmp 27) ?_ 4 2 ?_ ?_ ?_);rfl;rfl;rfl;rfl)
   | ((with_reducible refine zAR ?_ (.tmp 28) ?_ (opN 4 2) ?_ ?_);rfl;rfl;rfl)
   | (at_builtin;refine zAM (by rfl) (.tmp 26) (.tmp 29) (by rfl) _ w.heap.size (by simp only [World.size_alloc];omega) _ [] (by rfl) (World.ownsRow_nil _ _ _ _) _ _ [opN 4 2] (by rfl) (zAf W (opN 4 2)) (λ_=>by simp) ?_))
  intro va wa rowa owna hga hra hva;have hGa:w.grownBy wa (some kp):=zAO (zAB hG (World.grownBy_alloc _ _ _)) hga hra;have hRa:=(hR.row (World.grownBy_alloc W _ none) (by simp)).row hga (λb e=>Nat.le_trans hlo (hra b e));have hsa:=hGa.size;have S:=HS r wa hn hok2 hRa;rw [hs] at S;clear hga hra hva hR hG HS;go_wp2_with fail
  refine S.mono ?_;rintro e w2 ⟨hg2,hc,vb,row,ts2,rfl,ownb,hrw,hRb⟩;have hG2:w.grownBy w2 (some kp):=zAB hGa hg2;have hs2:=hg2.size;have own2:=zAb owna hg2 hkw;clear S owna hGa hg2;clear hfit hs;go_wp2_with (at_builtin;refine zAM (by rfl) (.tmp 33) (.tmp 34) (by rfl) w2 w.heap.size (by omega) va [opN 4 2] (by rfl) own2 vb _ row (by rfl) ownb (λ_=>by simp only [List.length_singleton];omega) ?_)
  intro vc wc rowc ownc hgc hrc _;have hGc:w.grownBy wc (some kp):=zAO hG2 hgc hrc;have hRc:=hRb.row hgc (λb e=>Nat.le_trans hlo (hrc b e));clear own2 ownb hgc hrc;go_wp2;go_ret;exact ⟨hGc,hc,vc,_,ts2,rfl,ownc,by simp only [List.length_cons];omega,hRc⟩
theorem zFJ (tn lo kp:Nat) (en:Int) (sub6:List Wlx.TV->PR) (n:Nat) (HP:QFn tn lo kp en 97 sub6 n) (ts:List Wlx.TV) (w:World) (hn:ts.length<=n) (hok:∀ x ∈ ts,zAP x) (h:RS tn lo kp en w ts 0 0) (hm0:mkk ts 0 [45]=false) (hm:mkk ts 0 [43]=false) :
  Calls prog 61 #[.pointer (some ⟨kp,0,none⟩)] w λe w'=>QPost tn lo kp en ts.length (sub6 ts) w e w':=by
 have M1:=zAL tn lo kp en w _ 0 0 0 (by omega) [45] h;rw [hm0] at M1;have M2:=zAL tn lo kp en w _ 0 0 0 (by omega) [43] h;rw [hm] at M2;have S:=HP ts w hn hok h;clear hm hm0 h;refine zDQ S (λS=>?_) (λe w' q=>q.val);go_enter func61,ntmps61;go_wp2_with fail
 refine M1.mono ?_;rintro e w1 ⟨rfl,rfl⟩;clear M1;go_wp2_with fail
 refine M2.mono ?_;rintro e w1 ⟨rfl,rfl⟩;clear M2;go_wp2_with fail
 refine S.mono ?_;rintro e w2 ⟨⟨v,rfl⟩,hQ⟩;go_wp2;go_ret;exact hQ
theorem zGb (tn lo kp:Nat) (en:Int) (sub5 sub6:List Wlx.TV->PR) (n:Nat) (HS:QFn tn lo kp en 61 sub5 n) (HP:QFn tn lo kp en 97 sub6 (n+1)) (hfit:∀ ts row r2,(∀ t ∈ ts,zAP t)->sub5 ts=.inl (row,r2)->zEk ts.length row r2):QFn tn lo kp en 61 (psg sub5 sub6) (n+1):=by
 intro ts w hn hok h;rcases zJP ts with ⟨t,r,rfl,hm,ht⟩ | ⟨t,r,rfl,hm0,hm,ht⟩ | ⟨hm0,hm,ht⟩
 ·have hl:=h.lo.2.2;have:=zIu tn lo kp en sub5 n HS t r w (by simp only [List.length_cons] at hn;omega) hok (λrow r2 e=>by have:=(hfit r row r2 (λx hx=>hok x (List.mem_cons_of_mem _ hx)) e).2;simp only [List.length_cons] at hl;omega) h hm;unfold psg;rw [ht];exact this
 ·have hl:=h.lo.2.2;have:=zKy tn lo kp en sub5 n HS t r w (by simp only [List.length_cons] at hn;omega) hok (λrow r2 e=>by have:=(hfit r row r2 (λx hx=>hok x (List.mem_cons_of_mem _ hx)) e).2;simp only [List.length_cons] at hl;omega) h hm0 hm;unfold psg;rw [ht];exact this
 ·have:=zFJ tn lo kp en sub6 (n+1) HP ts w hn hok h hm0 hm;unfold psg;rw [ht];exact this
def oW:Nat->List Value
 | 0=>[.string ⟨#[61]⟩,.string ⟨#[60,62]⟩,.string ⟨#[60]⟩,.string ⟨#[60,61]⟩,.string ⟨#[62]⟩,.string ⟨#[62,61]⟩]
 | 1=>[.string ⟨#[38]⟩]
 | 2=>[.string ⟨#[43]⟩,.string ⟨#[45]⟩]
 | 3=>[.string ⟨#[42]⟩,.string ⟨#[47]⟩]
 | _=>[.string ⟨#[94]⟩]
def oO:Nat->List Value
 | 0=>[.int .i64 21,.int .i64 22,.int .i64 23,.int .i64 24,.int .i64 25,.int .i64 26]
 | 1=>[.int .i64 16]
 | 2=>[.int .i64 11,.int .i64 12]
 | 3=>[.int .i64 13,.int .i64 14]
 | _=>[.int .i64 15]
def oN:Nat->Nat
 | 0=>6
 | 1=>1
 | 2=>2
 | 3=>2
 | _=>1
def oas (m:List UInt8) (k:Int):Int:=match Wt.opAs m k with
 | some o=>o.1
 | none=>0
def zP3 (k:Nat) (m:List UInt8) (j:Nat) (r:Int):Prop:=j<=oN k/\(∀ i,i<j->∃ q:List UInt8,(oW k)[i]? = some (.string ⟨q.toArray⟩)/\¬ q=m)/\((j=oN k/\r=0) \/ (j<oN k/\(oW k)[j]? = some (.string ⟨m.toArray⟩)/\(oO k)[j]? = some (.int .i64 r)))
theorem zPv (m:List UInt8):∃ j,zP3 0 m j (oas m 0):=by
 by_cases h0:m=[61]
 ·rw [h0];refine ⟨0,by decide,λi hi=>?_,Or.inr ⟨by decide,rfl,by rfl⟩⟩;exact absurd hi (Nat.not_lt_zero _)
 by_cases h1:m=[60,62]
 ·rw [h1];refine ⟨1,by decide,λi hi=>?_,Or.inr ⟨by decide,rfl,by rfl⟩⟩;match i,hi with
  | 0,_=>exact ⟨[61],rfl,by decide⟩
  | i+1,hi=>omega
 by_cases h2:m=[60]
 ·rw [h2];refine ⟨2,by decide,λi hi=>?_,Or.inr ⟨by decide,rfl,by rfl⟩⟩;match i,hi with
  | 0,_=>exact ⟨[61],rfl,by decide⟩
  | 1,_=>exact ⟨[60,62],rfl,by decide⟩
  | i+2,hi=>omega
 by_cases h3:m=[60,61]
 ·rw [h3];refine ⟨3,by decide,λi hi=>?_,Or.inr ⟨by decide,rfl,by rfl⟩⟩;match i,hi with
  | 0,_=>exact ⟨[61],rfl,by decide⟩
  | 1,_=>exact ⟨[60,62],rfl,by decide⟩
  | 2,_=>exact ⟨[60],rfl,by decide⟩
  | i+3,hi=>omega
 by_cases h4:m=[62]
 ·rw [h4];refine ⟨4,by decide,λi hi=>?_,Or.inr ⟨by decide,rfl,by rfl⟩⟩;match i,hi with
  | 0,_=>exact ⟨[61],rfl,by decide⟩
  | 1,_=>exact ⟨[60,62],rfl,by decide⟩
  | 2,_=>exact ⟨[60],rfl,by decide⟩
  | 3,_=>exact ⟨[60,61],rfl,by decide⟩
  | i+4,hi=>omega
 by_cases h5:m=[62,61]
 ·rw [h5];refine ⟨5,by decide,λi hi=>?_,Or.inr ⟨by decide,rfl,by rfl⟩⟩;match i,hi with
  | 0,_=>exact ⟨[61],rfl,by decide⟩
  | 1,_=>exact ⟨[60,62],rfl,by decide⟩
  | 2,_=>exact ⟨[60],rfl,by decide⟩
  | 3,_=>exact ⟨[60,61],rfl,by decide⟩
  | 4,_=>exact ⟨[62],rfl,by decide⟩
  | i+5,hi=>omega
 ·have e:oas m 0=0:=by
   have:Wt.opAs m 0=none:=by
    unfold Wt.opAs Wt.opsT;simp [ne_comm.1 h0,ne_comm.1 h1,ne_comm.1 h2,ne_comm.1 h3,ne_comm.1 h4,ne_comm.1 h5]
   unfold oas;rw [this]
  rw [e];refine ⟨6,by decide,λi hi=>?_,Or.inl ⟨rfl,rfl⟩⟩;match i,hi with
  | 0,_=>exact ⟨[61],rfl,λe=>h0 e.symm⟩
  | 1,_=>exact ⟨[60,62],rfl,λe=>h1 e.symm⟩
  | 2,_=>exact ⟨[60],rfl,λe=>h2 e.symm⟩
  | 3,_=>exact ⟨[60,61],rfl,λe=>h3 e.symm⟩
  | 4,_=>exact ⟨[62],rfl,λe=>h4 e.symm⟩
  | 5,_=>exact ⟨[62,61],rfl,λe=>h5 e.symm⟩
  | i+6,hi=>omega
theorem zPd (m:List UInt8):∃ j,zP3 1 m j (oas m 1):=by
 by_cases h0:m=[38]
 ·rw [h0];refine ⟨0,by decide,λi hi=>?_,Or.inr ⟨by decide,rfl,by rfl⟩⟩;exact absurd hi (Nat.not_lt_zero _)
 ·have e:oas m 1=0:=by
   have:Wt.opAs m 1=none:=by
    unfold Wt.opAs Wt.opsT;simp [ne_comm.1 h0]
   unfold oas;rw [this]
  rw [e];refine ⟨1,by decide,λi hi=>?_,Or.inl ⟨rfl,rfl⟩⟩;match i,hi with
  | 0,_=>exact ⟨[38],rfl,λe=>h0 e.symm⟩
  | i+1,hi=>omega
theorem zQC (m:List UInt8):∃ j,zP3 2 m j (oas m 2):=by
 by_cases h0:m=[43]
 ·rw [h0];refine ⟨0,by decide,λi hi=>?_,Or.inr ⟨by decide,rfl,by rfl⟩⟩;exact absurd hi (Nat.not_lt_zero _)
 by_cases h1:m=[45]
 ·rw [h1];refine ⟨1,by decide,λi hi=>?_,Or.inr ⟨by decide,rfl,by rfl⟩⟩;match i,hi with
  | 0,_=>exact ⟨[43],rfl,by decide⟩
  | i+1,hi=>omega
 ·have e:oas m 2=0:=by
   have:Wt.opAs m 2=none:=by
    unfold Wt.opAs Wt.opsT;simp [ne_comm.1 h0,ne_comm.1 h1]
   unfold oas;rw [this]
  rw [e];refine ⟨2,by decide,λi hi=>?_,Or.inl ⟨rfl,rfl⟩⟩;match i,hi with
  | 0,_=>exact ⟨[43],rfl,λe=>h0 e.symm⟩
  | 1,_=>exact ⟨[45],rfl,λe=>h1 e.symm⟩
  | i+2,hi=>omega
theorem zPh (m:List UInt8):∃ j,zP3 3 m j (oas m 3):=by
 by_cases h0:m=[42]
 ·rw [h0];refine ⟨0,by decide,λi hi=>?_,Or.inr ⟨by decide,rfl,by rfl⟩⟩;exact absurd hi (Nat.not_lt_zero _)
 by_cases h1:m=[47]
 ·rw [h1];refine ⟨1,by decide,λi hi=>?_,Or.inr ⟨by decide,rfl,by rfl⟩⟩;match i,hi with
  | 0,_=>exact ⟨[42],rfl,by decide⟩
  | i+1,hi=>omega
 ·have e:oas m 3=0:=by
   have:Wt.opAs m 3=none:=by
    unfold Wt.opAs Wt.opsT;simp [ne_comm.1 h0,ne_comm.1 h1]
   unfold oas;rw [this]
  rw [e];refine ⟨2,by decide,λi hi=>?_,Or.inl ⟨rfl,rfl⟩⟩;match i,hi with
  | 0,_=>exact ⟨[42],rfl,λe=>h0 e.symm⟩
  | 1,_=>exact ⟨[47],rfl,λe=>h1 e.symm⟩
  | i+2,hi=>omega
theorem zQT (m:List UInt8):∃ j,zP3 4 m j (oas m 4):=by
 by_cases h0:m=[94]
 ·rw [h0];refine ⟨0,by decide,λi hi=>?_,Or.inr ⟨by decide,rfl,by rfl⟩⟩;exact absurd hi (Nat.not_lt_zero _)
 ·have e:oas m 4=0:=by
   have:Wt.opAs m 4=none:=by
    unfold Wt.opAs Wt.opsT;simp [ne_comm.1 h0]
   unfold oas;rw [this]
  rw [e];refine ⟨1,by decide,λi hi=>?_,Or.inl ⟨rfl,rfl⟩⟩;match i,hi with
  | 0,_=>exact ⟨[94],rfl,λe=>h0 e.symm⟩
  | i+1,hi=>omega
theorem zLy (k:Nat) (hk:k<5) (m:List UInt8):∃ j,zP3 k m j (oas m k):=by
 match k,hk with
 | 0,_=>exact zPv m
 | 1,_=>exact zPd m
 | 2,_=>exact zQC m
 | 3,_=>exact zPh m
 | 4,_=>exact zQT m
 | k+5,hk=>omega
theorem zL8 (w:World) (k:Nat) (hk:k<5):∃ rb ob,((((((((((((w.alloc (.cells #[.string ⟨#[61]⟩,.string ⟨#[60,62]⟩,.string ⟨#[60]⟩,.string ⟨#[60,61]⟩,.string ⟨#[62]⟩,.string ⟨#[62,61]⟩] 9)).alloc (.cells #[.string ⟨#[38]⟩] 9)).alloc (.cells #[.string ⟨#[43]⟩,.string ⟨#[45]⟩] 9)).alloc (.cells #[.string ⟨#[42]⟩,.string ⟨#[47]⟩] 9)).alloc (.cells #[.string ⟨#[94]⟩] 9)).alloc (.cells #[.slice (some ⟨w.heap.size,0,none⟩) 6 6,.slice (some ⟨w.heap.size+1,0,none⟩) 1 1,.slice (some ⟨w.heap.size+2,0,none⟩) 2 2,.slice (some ⟨w.heap.size+3,0,none⟩) 2 2,.slice (some ⟨w.heap.size+4,0,none⟩) 1 1] 43)).alloc (.cells #[.int .i64 21,.int .i64 22,.int .i64 23,.int .i64 24,.int .i64 25,.int .i64 26] 3)).alloc (.cells #[.int .i64 16] 3)).alloc (.cells #[.int .i64 11,.int .i64 12] 3)).alloc (.cells #[.int .i64 13,.int .i64 14] 3)).alloc (.cells #[.int .i64 15] 3)).alloc (.cells #[.slice (some ⟨w.heap.size+6,0,none⟩) 6 6,.slice (some ⟨w.heap.size+7,0,none⟩) 1 1,.slice (some ⟨w.heap.size+8,0,none⟩) 2 2,.slice (some ⟨w.heap.size+9,0,none⟩) 2 2,.slice (some ⟨w.heap.size+10,0,none⟩) 1 1] 121)).cell? ⟨w.heap.size+5,k,none⟩=some (.slice (some ⟨rb,0,none⟩) (oN k) (oN k))/\((((((((((((w.alloc (.cells #[.string ⟨#[61]⟩,.string ⟨#[60,62]⟩,.string ⟨#[60]⟩,.string ⟨#[60,61]⟩,.string ⟨#[62]⟩,.string ⟨#[62,61]⟩] 9)).alloc (.cells #[.string ⟨#[38]⟩] 9)).alloc (.cells #[.string ⟨#[43]⟩,.string ⟨#[45]⟩] 9)).alloc (.cells #[.string ⟨#[42]⟩,.string ⟨#[47]⟩] 9)).alloc (.cells #[.string ⟨#[94]⟩] 9)).alloc (.cells #[.slice (some ⟨w.heap.size,0,none⟩) 6 6,.slice (some ⟨w.heap.size+1,0,none⟩) 1 1,.slice (some ⟨w.heap.size+2,0,none⟩) 2 2,.slice (some ⟨w.heap.size+3,0,none⟩) 2 2,.slice (some ⟨w.heap.size+4,0,none⟩) 1 1] 43)).alloc (.cells #[.int .i64 21,.int .i64 22,.int .i64 23,.int .i64 24,.int .i64 25,.int .i64 26] 3)).alloc (.cells #[.int .i64 16] 3)).alloc (.cells #[.int .i64 11,.int .i64 12] 3)).alloc (.cells #[.int .i64 13,.int .i64 14] 3)).alloc (.cells #[.int .i64 15] 3)).alloc (.cells #[.slice (some ⟨w.heap.size+6,0,none⟩) 6 6,.slice (some ⟨w.heap.size+7,0,none⟩) 1 1,.slice (some ⟨w.heap.size+8,0,none⟩) 2 2,.slice (some ⟨w.heap.size+9,0,none⟩) 2 2,.slice (some ⟨w.heap.size+10,0,none⟩) 1 1] 121)).cell? ⟨w.heap.size+11,k,none⟩=some (.slice (some ⟨ob,0,none⟩) (oN k) (oN k))/\(∀ i v,(oW k)[i]? = some v->((((((((((((w.alloc (.cells #[.string ⟨#[61]⟩,.string ⟨#[60,62]⟩,.string ⟨#[60]⟩,.string ⟨#[60,61]⟩,.string ⟨#[62]⟩,.string ⟨#[62,61]⟩] 9)).alloc (.cells #[.string ⟨#[38]⟩] 9)).alloc (.cells #[.string ⟨#[43]⟩,.string ⟨#[45]⟩] 9)).alloc (.cells #[.string ⟨#[42]⟩,.string ⟨#[47]⟩] 9)).alloc (.cells #[.string ⟨#[94]⟩] 9)).alloc (.cells #[.slice (some ⟨w.heap.size,0,none⟩) 6 6,.slice (some ⟨w.heap.size+1,0,none⟩) 1 1,.slice (some ⟨w.heap.size+2,0,none⟩) 2 2,.slice (some ⟨w.heap.size+3,0,none⟩) 2 2,.slice (some ⟨w.heap.size+4,0,none⟩) 1 1] 43)).alloc (.cells #[.int .i64 21,.int .i64 22,.int .i64 23,.int .i64 24,.int .i64 25,.int .i64 26] 3)).alloc (.cells #[.int .i64 16] 3)).alloc (.cells #[.int .i64 11,.int .i64 12] 3)).alloc (.cells #[.int .i64 13,.int .i64 14] 3)).alloc (.cells #[.int .i64 15] 3)).alloc (.cells #[.slice (some ⟨w.heap.size+6,0,none⟩) 6 6,.slice (some ⟨w.heap.size+7,0,none⟩) 1 1,.slice (some ⟨w.heap.size+8,0,none⟩) 2 2,.slice (some ⟨w.heap.size+9,0,none⟩) 2 2,.slice (some ⟨w.heap.size+10,0,none⟩) 1 1] 121)).cell? ⟨rb,i,none⟩=some v)/\(∀ i v,(oO k)[i]? = some v->((((((((((((w.alloc (.cells #[.string ⟨#[61]⟩,.string ⟨#[60,62]⟩,.string ⟨#[60]⟩,.string ⟨#[60,61]⟩,.string ⟨#[62]⟩,.string ⟨#[62,61]⟩] 9)).alloc (.cells #[.string ⟨#[38]⟩] 9)).alloc (.cells #[.string ⟨#[43]⟩,.string ⟨#[45]⟩] 9)).alloc (.cells #[.string ⟨#[42]⟩,.string ⟨#[47]⟩] 9)).alloc (.cells #[.string ⟨#[94]⟩] 9)).alloc (.cells #[.slice (some ⟨w.heap.size,0,none⟩) 6 6,.slice (some ⟨w.heap.size+1,0,none⟩) 1 1,.slice (some ⟨w.heap.size+2,0,none⟩) 2 2,.slice (some ⟨w.heap.size+3,0,none⟩) 2 2,.slice (some ⟨w.heap.size+4,0,none⟩) 1 1] 43)).alloc (.cells #[.int .i64 21,.int .i64 22,.int .i64 23,.int .i64 24,.int .i64 25,.int .i64 26] 3)).alloc (.cells #[.int .i64 16] 3)).alloc (.cells #[.int .i64 11,.int .i64 12] 3)).alloc (.cells #[.int .i64 13,.int .i64 14] 3)).alloc (.cells #[.int .i64 15] 3)).alloc (.cells #[.slice (some ⟨w.heap.size+6,0,none⟩) 6 6,.slice (some ⟨w.heap.size+7,0,none⟩) 1 1,.slice (some ⟨w.heap.size+8,0,none⟩) 2 2,.slice (some ⟨w.heap.size+9,0,none⟩) 2 2,.slice (some ⟨w.heap.size+10,0,none⟩) 1 1] 121)).cell? ⟨ob,i,none⟩=some v):=by
 have pR:=(AtL.alloc (AtL.alloc (AtL.alloc (AtL.alloc (AtL.alloc (AtL.alloc (AtL.new (((((w.alloc (.cells #[.string ⟨#[61]⟩,.string ⟨#[60,62]⟩,.string ⟨#[60]⟩,.string ⟨#[60,61]⟩,.string ⟨#[62]⟩,.string ⟨#[62,61]⟩] 9)).alloc (.cells #[.string ⟨#[38]⟩] 9)).alloc (.cells #[.string ⟨#[43]⟩,.string ⟨#[45]⟩] 9)).alloc (.cells #[.string ⟨#[42]⟩,.string ⟨#[47]⟩] 9)).alloc (.cells #[.string ⟨#[94]⟩] 9)) 43 (k:=w.heap.size+5) (by simp) [.slice (some ⟨w.heap.size,0,none⟩) 6 6,.slice (some ⟨w.heap.size+1,0,none⟩) 1 1,.slice (some ⟨w.heap.size+2,0,none⟩) 2 2,.slice (some ⟨w.heap.size+3,0,none⟩) 2 2,.slice (some ⟨w.heap.size+4,0,none⟩) 1 1]) (.cells #[.int .i64 21,.int .i64 22,.int .i64 23,.int .i64 24,.int .i64 25,.int .i64 26] 3)) (.cells #[.int .i64 16] 3)) (.cells #[.int .i64 11,.int .i64 12] 3)) (.cells #[.int .i64 13,.int .i64 14] 3)) (.cells #[.int .i64 15] 3)) (.cells #[.slice (some ⟨w.heap.size+6,0,none⟩) 6 6,.slice (some ⟨w.heap.size+7,0,none⟩) 1 1,.slice (some ⟨w.heap.size+8,0,none⟩) 2 2,.slice (some ⟨w.heap.size+9,0,none⟩) 2 2,.slice (some ⟨w.heap.size+10,0,none⟩) 1 1] 121))
 have pO:=(AtL.new (((((((((((w.alloc (.cells #[.string ⟨#[61]⟩,.string ⟨#[60,62]⟩,.string ⟨#[60]⟩,.string ⟨#[60,61]⟩,.string ⟨#[62]⟩,.string ⟨#[62,61]⟩] 9)).alloc (.cells #[.string ⟨#[38]⟩] 9)).alloc (.cells #[.string ⟨#[43]⟩,.string ⟨#[45]⟩] 9)).alloc (.cells #[.string ⟨#[42]⟩,.string ⟨#[47]⟩] 9)).alloc (.cells #[.string ⟨#[94]⟩] 9)).alloc (.cells #[.slice (some ⟨w.heap.size,0,none⟩) 6 6,.slice (some ⟨w.heap.size+1,0,none⟩) 1 1,.slice (some ⟨w.heap.size+2,0,none⟩) 2 2,.slice (some ⟨w.heap.size+3,0,none⟩) 2 2,.slice (some ⟨w.heap.size+4,0,none⟩) 1 1] 43)).alloc (.cells #[.int .i64 21,.int .i64 22,.int .i64 23,.int .i64 24,.int .i64 25,.int .i64 26] 3)).alloc (.cells #[.int .i64 16] 3)).alloc (.cells #[.int .i64 11,.int .i64 12] 3)).alloc (.cells #[.int .i64 13,.int .i64 14] 3)).alloc (.cells #[.int .i64 15] 3)) 121 (k:=w.heap.size+11) (by simp) [.slice (some ⟨w.heap.size+6,0,none⟩) 6 6,.slice (some ⟨w.heap.size+7,0,none⟩) 1 1,.slice (some ⟨w.heap.size+8,0,none⟩) 2 2,.slice (some ⟨w.heap.size+9,0,none⟩) 2 2,.slice (some ⟨w.heap.size+10,0,none⟩) 1 1])
 match k,hk with
 | 0,_=>exact ⟨w.heap.size,w.heap.size+6,pR.2.1 0 _ rfl,pO.2.1 0 _ rfl,(AtL.alloc (AtL.alloc (AtL.alloc (AtL.alloc (AtL.alloc (AtL.alloc (AtL.alloc (AtL.alloc (AtL.alloc (AtL.alloc (AtL.alloc (AtL.new w 9 (k:=w.heap.size) (by rfl) [.string ⟨#[61]⟩,.string ⟨#[60,62]⟩,.string ⟨#[60]⟩,.string ⟨#[60,61]⟩,.string ⟨#[62]⟩,.string ⟨#[62,61]⟩]) (.cells #[.string ⟨#[38]⟩] 9)) (.cells #[.string ⟨#[43]⟩,.string ⟨#[45]⟩] 9)) (.cells #[.string ⟨#[42]⟩,.string ⟨#[47]⟩] 9)) (.cells #[.string ⟨#[94]⟩] 9)) (.cells #[.slice (some ⟨w.heap.size,0,none⟩) 6 6,.slice (some ⟨w.heap.size+1,0,none⟩) 1 1,.slice (some ⟨w.heap.size+2,0,none⟩) 2 2,.slice (some ⟨w.heap.size+3,0,none⟩) 2 2,.slice (some ⟨w.heap.size+4,0,none⟩) 1 1] 43)) (.cells #[.int .i64 21,.int .i64 22,.int .i64 23,.int .i64 24,.int .i64 25,.int .i64 26] 3)) (.cells #[.int .i64 16] 3)) (.cells #[.int .i64 11,.int .i64 12] 3)) (.cells #[.int .i64 13,.int .i64 14] 3)) (.cells #[.int .i64 15] 3)) (.cells #[.slice (some ⟨w.heap.size+6,0,none⟩) 6 6,.slice (some ⟨w.heap.size+7,0,none⟩) 1 1,.slice (some ⟨w.heap.size+8,0,none⟩) 2 2,.slice (some ⟨w.heap.size+9,0,none⟩) 2 2,.slice (some ⟨w.heap.size+10,0,none⟩) 1 1] 121)).2.1,(AtL.alloc (AtL.alloc (AtL.alloc (AtL.alloc (AtL.alloc (AtL.new ((((((w.alloc (.cells #[.string ⟨#[61]⟩,.string ⟨#[60,62]⟩,.string ⟨#[60]⟩,.string ⟨#[60,61]⟩,.string ⟨#[62]⟩,.string ⟨#[62,61]⟩] 9)).alloc (.cells #[.string ⟨#[38]⟩] 9)).alloc (.cells #[.string ⟨#[43]⟩,.string ⟨#[45]⟩] 9)).alloc (.cells #[.string ⟨#[42]⟩,.string ⟨#[47]⟩] 9)).alloc (.cells #[.string ⟨#[94]⟩] 9)).alloc (.cells #[.slice (some ⟨w.heap.size,0,none⟩) 6 6,.slice (some ⟨w.heap.size+1,0,none⟩) 1 1,.slice (some ⟨w.heap.size+2,0,none⟩) 2 2,.slice (some ⟨w.heap.size+3,0,none⟩) 2 2,.slice (some ⟨w.heap.size+4,0,none⟩) 1 1] 43)) 3 (k:=w.heap.size+6) (by simp) [.int .i64 21,.int .i64 22,.int .i64 23,.int .i64 24,.int .i64 25,.int .i64 26]) (.cells #[.int .i64 16] 3)) (.cells #[.int .i64 11,.int .i64 12] 3)) (.cells #[.int .i64 13,.int .i64 14] 3)) (.cells #[.int .i64 15] 3)) (.cells #[.slice (some ⟨w.heap.size+6,0,none⟩) 6 6,.slice (some ⟨w.heap.size+7,0,none⟩) 1 1,.slice (some ⟨w.heap.size+8,0,none⟩) 2 2,.slice (some ⟨w.heap.size+9,0,none⟩) 2 2,.slice (some ⟨w.heap.size+10,0,none⟩) 1 1] 121)).2.1⟩
 | 1,_=>exact ⟨w.heap.size+1,w.heap.size+7,pR.2.1 1 _ rfl,pO.2.1 1 _ rfl,(AtL.alloc (AtL.alloc (AtL.alloc (AtL.alloc (AtL.alloc (AtL.alloc (AtL.alloc (AtL.alloc (AtL.alloc (AtL.alloc (AtL.new (w.alloc (.cells #[.string ⟨#[61]⟩,.string ⟨#[60,62]⟩,.string ⟨#[60]⟩,.string ⟨#[60,61]⟩,.string ⟨#[62]⟩,.string ⟨#[62,61]⟩] 9)) 9 (k:=w.heap.size+1) (by simp) [.string ⟨#[38]⟩]) (.cells #[.string ⟨#[43]⟩,.string ⟨#[45]⟩] 9)) (.cells #[.string ⟨#[42]⟩,.string ⟨#[47]⟩] 9)) (.cells #[.string ⟨#[94]⟩] 9)) (.cells #[.slice (some ⟨w.heap.size,0,none⟩) 6 6,.slice (some ⟨w.heap.size+1,0,none⟩) 1 1,.slice (some ⟨w.heap.size+2,0,none⟩) 2 2,.slice (some ⟨w.heap.size+3,0,none⟩) 2 2,.slice (some ⟨w.heap.size+4,0,none⟩) 1 1] 43)) (.cells #[.int .i64 21,.int .i64 22,.int .i64 23,.int .i64 24,.int .i64 25,.int .i64 26] 3)) (.cells #[.int .i64 16] 3)) (.cells #[.int .i64 11,.int .i64 12] 3)) (.cells #[.int .i64 13,.int .i64 14] 3)) (.cells #[.int .i64 15] 3)) (.cells #[.slice (some ⟨w.heap.size+6,0,none⟩) 6 6,.slice (some ⟨w.heap.size+7,0,none⟩) 1 1,.slice (some ⟨w.heap.size+8,0,none⟩) 2 2,.slice (some ⟨w.heap.size+9,0,none⟩) 2 2,.slice (some ⟨w.heap.size+10,0,none⟩) 1 1] 121)).2.1,(AtL.alloc (AtL.alloc (AtL.alloc (AtL.alloc (AtL.new (((((((w.alloc (.cells #[.string ⟨#[61]⟩,.string ⟨#[60,62]⟩,.string ⟨#[60]⟩,.string ⟨#[60,61]⟩,.string ⟨#[62]⟩,.string ⟨#[62,61]⟩] 9)).alloc (.cells #[.string ⟨#[38]⟩] 9)).alloc (.cells #[.string ⟨#[43]⟩,.string ⟨#[45]⟩] 9)).alloc (.cells #[.string ⟨#[42]⟩,.string ⟨#[47]⟩] 9)).alloc (.cells #[.string ⟨#[94]⟩] 9)).alloc (.cells #[.slice (some ⟨w.heap.size,0,none⟩) 6 6,.slice (some ⟨w.heap.size+1,0,none⟩) 1 1,.slice (some ⟨w.heap.size+2,0,none⟩) 2 2,.slice (some ⟨w.heap.size+3,0,none⟩) 2 2,.slice (some ⟨w.heap.size+4,0,none⟩) 1 1] 43)).alloc (.cells #[.int .i64 21,.int .i64 22,.int .i64 23,.int .i64 24,.int .i64 25,.int .i64 26] 3)) 3 (k:=w.heap.size+7) (by simp) [.int .i64 16]) (.cells #[.int .i64 11,.int .i64 12] 3)) (.cells #[.int .i64 13,.int .i64 14] 3)) (.cells #[.int .i64 15] 3)) (.cells #[.slice (some ⟨w.heap.size+6,0,none⟩) 6 6,.slice (some ⟨w.heap.size+7,0,none⟩) 1 1,.slice (some ⟨w.heap.size+8,0,none⟩) 2 2,.slice (some ⟨w.heap.size+9,0,none⟩) 2 2,.slice (some ⟨w.heap.size+10,0,none⟩) 1 1] 121)).2.1⟩
 | 2,_=>exact ⟨w.heap.size+2,w.heap.size+8,pR.2.1 2 _ rfl,pO.2.1 2 _ rfl,(AtL.alloc (AtL.alloc (AtL.alloc (AtL.alloc (AtL.alloc (AtL.alloc (AtL.alloc (AtL.alloc (AtL.alloc (AtL.new ((w.alloc (.cells #[.string ⟨#[61]⟩,.string ⟨#[60,62]⟩,.string ⟨#[60]⟩,.string ⟨#[60,61]⟩,.string ⟨#[62]⟩,.string ⟨#[62,61]⟩] 9)).alloc (.cells #[.string ⟨#[38]⟩] 9)) 9 (k:=w.heap.size+2) (by simp) [.string ⟨#[43]⟩,.string ⟨#[45]⟩]) (.cells #[.string ⟨#[42]⟩,.string ⟨#[47]⟩] 9)) (.cells #[.string ⟨#[94]⟩] 9)) (.cells #[.slice (some ⟨w.heap.size,0,none⟩) 6 6,.slice (some ⟨w.heap.size+1,0,none⟩) 1 1,.slice (some ⟨w.heap.size+2,0,none⟩) 2 2,.slice (some ⟨w.heap.size+3,0,none⟩) 2 2,.slice (some ⟨w.heap.size+4,0,none⟩) 1 1] 43)) (.cells #[.int .i64 21,.int .i64 22,.int .i64 23,.int .i64 24,.int .i64 25,.int .i64 26] 3)) (.cells #[.int .i64 16] 3)) (.cells #[.int .i64 11,.int .i64 12] 3)) (.cells #[.int .i64 13,.int .i64 14] 3)) (.cells #[.int .i64 15] 3)) (.cells #[.slice (some ⟨w.heap.size+6,0,none⟩) 6 6,.slice (some ⟨w.heap.size+7,0,none⟩) 1 1,.slice (some ⟨w.heap.size+8,0,none⟩) 2 2,.slice (some ⟨w.heap.size+9,0,none⟩) 2 2,.slice (some ⟨w.heap.size+10,0,none⟩) 1 1] 121)).2.1,(AtL.alloc (AtL.alloc (AtL.alloc (AtL.new ((((((((w.alloc (.cells #[.string ⟨#[61]⟩,.string ⟨#[60,62]⟩,.string ⟨#[60]⟩,.string ⟨#[60,61]⟩,.string ⟨#[62]⟩,.string ⟨#[62,61]⟩] 9)).alloc (.cells #[.string ⟨#[38]⟩] 9)).alloc (.cells #[.string ⟨#[43]⟩,.string ⟨#[45]⟩] 9)).alloc (.cells #[.string ⟨#[42]⟩,.string ⟨#[47]⟩] 9)).alloc (.cells #[.string ⟨#[94]⟩] 9)).alloc (.cells #[.slice (some ⟨w.heap.size,0,none⟩) 6 6,.slice (some ⟨w.heap.size+1,0,none⟩) 1 1,.slice (some ⟨w.heap.size+2,0,none⟩) 2 2,.slice (some ⟨w.heap.size+3,0,none⟩) 2 2,.slice (some ⟨w.heap.size+4,0,none⟩) 1 1] 43)).alloc (.cells #[.int .i64 21,.int .i64 22,.int .i64 23,.int .i64 24,.int .i64 25,.int .i64 26] 3)).alloc (.cells #[.int .i64 16] 3)) 3 (k:=w.heap.size+8) (by simp) [.int .i64 11,.int .i64 12]) (.cells #[.int .i64 13,.int .i64 14] 3)) (.cells #[.int .i64 15] 3)) (.cells #[.slice (some ⟨w.heap.size+6,0,none⟩) 6 6,.slice (some ⟨w.heap.size+7,0,none⟩) 1 1,.slice (some ⟨w.heap.size+8,0,none⟩) 2 2,.slice (some ⟨w.heap.size+9,0,none⟩) 2 2,.slice (some ⟨w.heap.size+10,0,none⟩) 1 1] 121)).2.1⟩
 | 3,_=>exact ⟨w.heap.size+3,w.heap.size+9,pR.2.1 3 _ rfl,pO.2.1 3 _ rfl,(AtL.alloc (AtL.alloc (AtL.alloc (AtL.alloc (AtL.alloc (AtL.alloc (AtL.alloc (AtL.alloc (AtL.new (((w.alloc (.cells #[.string ⟨#[61]⟩,.string ⟨#[60,62]⟩,.string ⟨#[60]⟩,.string ⟨#[60,61]⟩,.string ⟨#[62]⟩,.string ⟨#[62,61]⟩] 9)).alloc (.cells #[.string ⟨#[38]⟩] 9)).alloc (.cells #[.string ⟨#[43]⟩,.string ⟨#[45]⟩] 9)) 9 (k:=w.heap.size+3) (by simp) [.string ⟨#[42]⟩,.string ⟨#[47]⟩]) (.cells #[.string ⟨#[94]⟩] 9)) (.cells #[.slice (some ⟨w.heap.size,0,none⟩) 6 6,.slice (some ⟨w.heap.size+1,0,none⟩) 1 1,.slice (some ⟨w.heap.size+2,0,none⟩) 2 2,.slice (some ⟨w.heap.size+3,0,none⟩) 2 2,.slice (some ⟨w.heap.size+4,0,none⟩) 1 1] 43)) (.cells #[.int .i64 21,.int .i64 22,.int .i64 23,.int .i64 24,.int .i64 25,.int .i64 26] 3)) (.cells #[.int .i64 16] 3)) (.cells #[.int .i64 11,.int .i64 12] 3)) (.cells #[.int .i64 13,.int .i64 14] 3)) (.cells #[.int .i64 15] 3)) (.cells #[.slice (some ⟨w.heap.size+6,0,none⟩) 6 6,.slice (some ⟨w.heap.size+7,0,none⟩) 1 1,.slice (some ⟨w.heap.size+8,0,none⟩) 2 2,.slice (some ⟨w.heap.size+9,0,none⟩) 2 2,.slice (some ⟨w.heap.size+10,0,none⟩) 1 1] 121)).2.1,(AtL.alloc (AtL.alloc (AtL.new (((((((((w.alloc (.cells #[.string ⟨#[61]⟩,.string ⟨#[60,62]⟩,.string ⟨#[60]⟩,.string ⟨#[60,61]⟩,.string ⟨#[62]⟩,.string ⟨#[62,61]⟩] 9)).alloc (.cells #[.string ⟨#[38]⟩] 9)).alloc (.cells #[.string ⟨#[43]⟩,.string ⟨#[45]⟩] 9)).alloc (.cells #[.string ⟨#[42]⟩,.string ⟨#[47]⟩] 9)).alloc (.cells #[.string ⟨#[94]⟩] 9)).alloc (.cells #[.slice (some ⟨w.heap.size,0,none⟩) 6 6,.slice (some ⟨w.heap.size+1,0,none⟩) 1 1,.slice (some ⟨w.heap.size+2,0,none⟩) 2 2,.slice (some ⟨w.heap.size+3,0,none⟩) 2 2,.slice (some ⟨w.heap.size+4,0,none⟩) 1 1] 43)).alloc (.cells #[.int .i64 21,.int .i64 22,.int .i64 23,.int .i64 24,.int .i64 25,.int .i64 26] 3)).alloc (.cells #[.int .i64 16] 3)).alloc (.cells #[.int .i64 11,.int .i64 12] 3)) 3 (k:=w.heap.size+9) (by simp) [.int .i64 13,.int .i64 14]) (.cells #[.int .i64 15] 3)) (.cells #[.slice (some ⟨w.heap.size+6,0,none⟩) 6 6,.slice (some ⟨w.heap.size+7,0,none⟩) 1 1,.slice (some ⟨w.heap.size+8,0,none⟩) 2 2,.slice (some ⟨w.heap.size+9,0,none⟩) 2 2,.slice (some ⟨w.heap.size+10,0,none⟩) 1 1] 121)).2.1⟩
 | 4,_=>exact ⟨w.heap.size+4,w.heap.size+10,pR.2.1 4 _ rfl,pO.2.1 4 _ rfl,(AtL.alloc (AtL.alloc (AtL.alloc (AtL.alloc (AtL.alloc (AtL.alloc (AtL.alloc (AtL.new ((((w.alloc (.cells #[.string ⟨#[61]⟩,.string ⟨#[60,62]⟩,.string ⟨#[60]⟩,.string ⟨#[60,61]⟩,.string ⟨#[62]⟩,.string ⟨#[62,61]⟩] 9)).alloc (.cells #[.string ⟨#[38]⟩] 9)).alloc (.cells #[.string ⟨#[43]⟩,.string ⟨#[45]⟩] 9)).alloc (.cells #[.string ⟨#[42]⟩,.string ⟨#[47]⟩] 9)) 9 (k:=w.heap.size+4) (by simp) [.string ⟨#[94]⟩]) (.cells #[.slice (some ⟨w.heap.size,0,none⟩) 6 6,.slice (some ⟨w.heap.size+1,0,none⟩) 1 1,.slice (some ⟨w.heap.size+2,0,none⟩) 2 2,.slice (some ⟨w.heap.size+3,0,none⟩) 2 2,.slice (some ⟨w.heap.size+4,0,none⟩) 1 1] 43)) (.cells #[.int .i64 21,.int .i64 22,.int .i64 23,.int .i64 24,.int .i64 25,.int .i64 26] 3)) (.cells #[.int .i64 16] 3)) (.cells #[.int .i64 11,.int .i64 12] 3)) (.cells #[.int .i64 13,.int .i64 14] 3)) (.cells #[.int .i64 15] 3)) (.cells #[.slice (some ⟨w.heap.size+6,0,none⟩) 6 6,.slice (some ⟨w.heap.size+7,0,none⟩) 1 1,.slice (some ⟨w.heap.size+8,0,none⟩) 2 2,.slice (some ⟨w.heap.size+9,0,none⟩) 2 2,.slice (some ⟨w.heap.size+10,0,none⟩) 1 1] 121)).2.1,(AtL.alloc (AtL.new ((((((((((w.alloc (.cells #[.string ⟨#[61]⟩,.string ⟨#[60,62]⟩,.string ⟨#[60]⟩,.string ⟨#[60,61]⟩,.string ⟨#[62]⟩,.string ⟨#[62,61]⟩] 9)).alloc (.cells #[.string ⟨#[38]⟩] 9)).alloc (.cells #[.string ⟨#[43]⟩,.string ⟨#[45]⟩] 9)).alloc (.cells #[.string ⟨#[42]⟩,.string ⟨#[47]⟩] 9)).alloc (.cells #[.string ⟨#[94]⟩] 9)).alloc (.cells #[.slice (some ⟨w.heap.size,0,none⟩) 6 6,.slice (some ⟨w.heap.size+1,0,none⟩) 1 1,.slice (some ⟨w.heap.size+2,0,none⟩) 2 2,.slice (some ⟨w.heap.size+3,0,none⟩) 2 2,.slice (some ⟨w.heap.size+4,0,none⟩) 1 1] 43)).alloc (.cells #[.int .i64 21,.int .i64 22,.int .i64 23,.int .i64 24,.int .i64 25,.int .i64 26] 3)).alloc (.cells #[.int .i64 16] 3)).alloc (.cells #[.int .i64 11,.int .i64 12] 3)).alloc (.cells #[.int .i64 13,.int .i64 14] 3)) 3 (k:=w.heap.size+10) (by simp) [.int .i64 15]) (.cells #[.slice (some ⟨w.heap.size+6,0,none⟩) 6 6,.slice (some ⟨w.heap.size+7,0,none⟩) 1 1,.slice (some ⟨w.heap.size+8,0,none⟩) 2 2,.slice (some ⟨w.heap.size+9,0,none⟩) 2 2,.slice (some ⟨w.heap.size+10,0,none⟩) 1 1] 121)).2.1⟩
 | k+5,hk=>omega
theorem zPI (k:Nat) (hk:k<5) (m:List UInt8) (w:World):CR 62 #[.int .i64 (k:Int),.string ⟨m.toArray⟩] w (.int .i64 (oas m k)):=by
 obtain ⟨j,hjn,hlt,hend⟩:=zLy k hk m;obtain ⟨rb,ob,cR,cO,hW,hO⟩:=zL8 w k hk;have hB:Below w.heap.size w ((((((((((((w.alloc (.cells #[.string ⟨#[61]⟩,.string ⟨#[60,62]⟩,.string ⟨#[60]⟩,.string ⟨#[60,61]⟩,.string ⟨#[62]⟩,.string ⟨#[62,61]⟩] 9)).alloc (.cells #[.string ⟨#[38]⟩] 9)).alloc (.cells #[.string ⟨#[43]⟩,.string ⟨#[45]⟩] 9)).alloc (.cells #[.string ⟨#[42]⟩,.string ⟨#[47]⟩] 9)).alloc (.cells #[.string ⟨#[94]⟩] 9)).alloc (.cells #[.slice (some ⟨w.heap.size,0,none⟩) 6 6,.slice (some ⟨w.heap.size+1,0,none⟩) 1 1,.slice (some ⟨w.heap.size+2,0,none⟩) 2 2,.slice (some ⟨w.heap.size+3,0,none⟩) 2 2,.slice (some ⟨w.heap.size+4,0,none⟩) 1 1] 43)).alloc (.cells #[.int .i64 21,.int .i64 22,.int .i64 23,.int .i64 24,.int .i64 25,.int .i64 26] 3)).alloc (.cells #[.int .i64 16] 3)).alloc (.cells #[.int .i64 11,.int .i64 12] 3)).alloc (.cells #[.int .i64 13,.int .i64 14] 3)).alloc (.cells #[.int .i64 15] 3)).alloc (.cells #[.slice (some ⟨w.heap.size+6,0,none⟩) 6 6,.slice (some ⟨w.heap.size+7,0,none⟩) 1 1,.slice (some ⟨w.heap.size+8,0,none⟩) 2 2,.slice (some ⟨w.heap.size+9,0,none⟩) 2 2,.slice (some ⟨w.heap.size+10,0,none⟩) 1 1] 121)):=zAI (zAI (zAI (zAI (zAI (zAI (zAI (zAI (zAI (zAI (zAI (zAI (Below.refl _ w) _) _) _) _) _) _) _) _) _) _) _) _;have hki:(k:Int)<5:=by omega
 generalize oas m k=res at *;have hn6:(oN k:Int)<=6:=by
  have:oN k<=6:=by
   match k,hk with
   | 0,_=>decide
   | 1,_=>decide
   | 2,_=>decide
   | 3,_=>decide
   | 4,_=>decide
   | k+5,hk=>omega
  omega
 have HE:Hid ((j=oN k/\res=0) \/ (j<oN k/\(oW k)[j]? = some (.string ⟨m.toArray⟩)/\(oO k)[j]? = some (.int .i64 res))):=hend;have HLT:Hid (∀ i,i<j->∃ q:List UInt8,(oW k)[i]? = some (.string ⟨q.toArray⟩)/\¬ q=m):=hlt;generalize oN k=n at *;clear hend hlt;go_enter func62,ntmps62;go_upto_region 3 with fail
 generalize ((((((((((((w.alloc (.cells #[.string ⟨#[61]⟩,.string ⟨#[60,62]⟩,.string ⟨#[60]⟩,.string ⟨#[60,61]⟩,.string ⟨#[62]⟩,.string ⟨#[62,61]⟩] 9)).alloc (.cells #[.string ⟨#[38]⟩] 9)).alloc (.cells #[.string ⟨#[43]⟩,.string ⟨#[45]⟩] 9)).alloc (.cells #[.string ⟨#[42]⟩,.string ⟨#[47]⟩] 9)).alloc (.cells #[.string ⟨#[94]⟩] 9)).alloc (.cells #[.slice (some ⟨w.heap.size,0,none⟩) 6 6,.slice (some ⟨w.heap.size+1,0,none⟩) 1 1,.slice (some ⟨w.heap.size+2,0,none⟩) 2 2,.slice (some ⟨w.heap.size+3,0,none⟩) 2 2,.slice (some ⟨w.heap.size+4,0,none⟩) 1 1] 43)).alloc (.cells #[.int .i64 21,.int .i64 22,.int .i64 23,.int .i64 24,.int .i64 25,.int .i64 26] 3)).alloc (.cells #[.int .i64 16] 3)).alloc (.cells #[.int .i64 11,.int .i64 12] 3)).alloc (.cells #[.int .i64 13,.int .i64 14] 3)).alloc (.cells #[.int .i64 15] 3)).alloc (.cells #[.slice (some ⟨w.heap.size+6,0,none⟩) 6 6,.slice (some ⟨w.heap.size+7,0,none⟩) 1 1,.slice (some ⟨w.heap.size+8,0,none⟩) 2 2,.slice (some ⟨w.heap.size+9,0,none⟩) 2 2,.slice (some ⟨w.heap.size+10,0,none⟩) 1 1] 121))=W0 at *;have HW:Hid (∀ i v,(oW k)[i]? = some v->W0.cell? ⟨rb,i,none⟩=some v):=hW;have HO:Hid (∀ i v,(oO k)[i]? = some v->W0.cell? ⟨ob,i,none⟩=some v):=hO;clear hW hO;go_wp2_with fail
 go_loopg [7] j (λgk x wr=>∃ i:Nat,x=.int .i64 i/\gk=j - i/\i<=j/\W0=wr)
 case atStart=>exact ⟨0,rfl,rfl,Nat.zero_le _,rfl⟩
 case round =>
  obtain ⟨i,rfl,hg,hi,rfl⟩:=hrel;by_cases hij:i<j
  ·obtain ⟨q,hq1,hq2⟩:=HLT.out i hij;have c0:=HW.out i _ hq1;have hin:(i:Int)<(n:Int):=by omega
   have hq3:(q == m)=false:=by simpa using hq2
   go_wp2_with fail
   go_roundg (j - (i+1))
   case rel=>exact ⟨i+1,by simp,rfl,hij,rfl⟩
   case measure=>omega
  ·obtain rfl:i=j:=by omega
   rcases HE.out with ⟨e1,e2⟩ | ⟨e1,e2,e3⟩
   ·subst e1 e2;have hin:¬ (i:Int)<(i:Int):=by omega
    go_wp2;go_ret;exact ⟨rfl,hB⟩
   ·have hin:(i:Int)<(n:Int):=by omega
    have c0:=HW.out i _ e2;have c1:=HO.out i _ e3;go_wp2;go_ret;exact ⟨rfl,hB⟩
end Go.Proofs.YtdghjlmnlodnlaaGreatDoor
