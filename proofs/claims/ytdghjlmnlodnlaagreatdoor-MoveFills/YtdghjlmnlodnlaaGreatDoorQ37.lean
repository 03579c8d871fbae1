/- TQPrime, TQPart. -/
import Derived.Test.YtdghjlmnlodnlaaGreatDoorQ36
set_option maxHeartbeats 3200000
set_option maxRecDepth 100000
namespace Go.Proofs.YtdghjlmnlodnlaaGreatDoor
open Tryz
open Go.RowKit Go.Shelf
set_option linter.unusedVariables false
theorem zq0 {w w':World} (hb:Below w.heap.size w w') {a b c d e a' b' c' d' e':Nat} {u v x y z:Value} (h1:w.cell? ⟨a,a',none⟩=some u) (h2:w.cell? ⟨b,b',none⟩=some v) (h3:w.cell? ⟨c,c',none⟩=some x) (h4:w.cell? ⟨d,d',none⟩=some y) (h5:w.cell? ⟨e,e',none⟩=some z):w'.cell? ⟨a,a',none⟩=some u/\w'.cell? ⟨b,b',none⟩=some v/\w'.cell? ⟨c,c',none⟩=some x/\w'.cell? ⟨d,d',none⟩=some y/\w'.cell? ⟨e,e',none⟩=some z :=
 ⟨zAM hb h1,zAM hb h2,zAM hb h3,zAM hb h4,zAM hb h5⟩
theorem QPost.from {tn lo kp:Nat} {en:Int} {n:Nat} {q:PR} {w w1 w':World} {e:Ending} (h:QPost tn lo kp en n q w1 e w') (hg:w.grownBy w1 (some kp)):QPost tn lo kp en n q w e w':=by
 obtain ⟨h1,h2⟩:=h;refine ⟨zAB hg h1,?_⟩;have hs:=hg.size;cases q with
 | inl q=>obtain ⟨v,e1,own,hr⟩:=h2;exact ⟨v,e1,zBc own hs,hr⟩
 | inr q=>obtain ⟨hc,v,row,ts,e1,own,hl,hr⟩:=h2;exact ⟨hc,v,row,ts,e1,zBc own hs,hl,hr⟩
theorem zID:∀ (i:Nat) (h:i<9),1<=i->∀ (w:World),CR 102 #[.string ⟨(fNames[i]'h).toArray⟩] w (.agg (vl6 ⟨4,0,0,⟨#[]⟩,false,((fi (fNames[i]'h) 0 fNames:Nat):Int)⟩).toArray)
 | 0,_,h,_=>absurd h (by decide)
 | 1,_,_,w=>zB7 [68,73,86,47,48,33] 1 (by decide) (by decide) w (by decide) (by decide +kernel) (by decide) (by decide) rfl (λj h1 h2=>match j,h1,h2 with
  | 0,h1,_=>absurd h1 (by decide)
  | j+1,_,h2=>absurd h2 (by omega)
  )
 | 2,_,_,w=>zB7 [86,65,76,85,69,33] 2 (by decide) (by decide) w (by decide) (by decide +kernel) (by decide) (by decide) rfl (λj h1 h2=>match j,h1,h2 with
  | 1,_,_=>⟨[35,68,73,86,47,48,33],rfl,by decide⟩
  | 0,h1,_=>absurd h1 (by decide)
  | j+2,_,h2=>absurd h2 (by omega)
  )
 | 3,_,_,w=>zB7 [82,69,70,33] 3 (by decide) (by decide) w (by decide) (by decide +kernel) (by decide) (by decide) rfl (λj h1 h2=>match j,h1,h2 with
  | 1,_,_=>⟨[35,68,73,86,47,48,33],rfl,by decide⟩
  | 2,_,_=>⟨[35,86,65,76,85,69,33],rfl,by decide⟩
  | 0,h1,_=>absurd h1 (by decide)
  | j+3,_,h2=>absurd h2 (by omega)
  )
 | 4,_,_,w=>zB7 [78,85,77,33] 4 (by decide) (by decide) w (by decide) (by decide +kernel) (by decide) (by decide) rfl (λj h1 h2=>match j,h1,h2 with
  | 1,_,_=>⟨[35,68,73,86,47,48,33],rfl,by decide⟩
  | 2,_,_=>⟨[35,86,65,76,85,69,33],rfl,by decide⟩
  | 3,_,_=>⟨[35,82,69,70,33],rfl,by decide⟩
  | 0,h1,_=>absurd h1 (by decide)
  | j+4,_,h2=>absurd h2 (by omega)
  )
 | 5,_,_,w=>zB7 [78,47,65] 5 (by decide) (by decide) w (by decide) (by decide +kernel) (by decide) (by decide) rfl (λj h1 h2=>match j,h1,h2 with
  | 1,_,_=>⟨[35,68,73,86,47,48,33],rfl,by decide⟩
  | 2,_,_=>⟨[35,86,65,76,85,69,33],rfl,by decide⟩
  | 3,_,_=>⟨[35,82,69,70,33],rfl,by decide⟩
  | 4,_,_=>⟨[35,78,85,77,33],rfl,by decide⟩
  | 0,h1,_=>absurd h1 (by decide)
  | j+5,_,h2=>absurd h2 (by omega)
  )
 | 6,_,_,w=>zB7 [67,73,82,67,76,69,33] 6 (by decide) (by decide) w (by decide) (by decide +kernel) (by decide) (by decide) rfl (λj h1 h2=>match j,h1,h2 with
  | 1,_,_=>⟨[35,68,73,86,47,48,33],rfl,by decide⟩
  | 2,_,_=>⟨[35,86,65,76,85,69,33],rfl,by decide⟩
  | 3,_,_=>⟨[35,82,69,70,33],rfl,by decide⟩
  | 4,_,_=>⟨[35,78,85,77,33],rfl,by decide⟩
  | 5,_,_=>⟨[35,78,47,65],rfl,by decide⟩
  | 0,h1,_=>absurd h1 (by decide)
  | j+6,_,h2=>absurd h2 (by omega)
  )
 | 7,_,_,w=>zB7 [76,79,78,71,33] 7 (by decide) (by decide) w (by decide) (by decide +kernel) (by decide) (by decide) rfl (λj h1 h2=>match j,h1,h2 with
  | 1,_,_=>⟨[35,68,73,86,47,48,33],rfl,by decide⟩
  | 2,_,_=>⟨[35,86,65,76,85,69,33],rfl,by decide⟩
  | 3,_,_=>⟨[35,82,69,70,33],rfl,by decide⟩
  | 4,_,_=>⟨[35,78,85,77,33],rfl,by decide⟩
  | 5,_,_=>⟨[35,78,47,65],rfl,by decide⟩
  | 6,_,_=>⟨[35,67,73,82,67,76,69,33],rfl,by decide⟩
  | 0,h1,_=>absurd h1 (by decide)
  | j+7,_,h2=>absurd h2 (by omega)
  )
 | 8,_,_,w=>zB7 [65,82,71,33] 8 (by decide) (by decide) w (by decide) (by decide +kernel) (by decide) (by decide) rfl (λj h1 h2=>match j,h1,h2 with
  | 1,_,_=>⟨[35,68,73,86,47,48,33],rfl,by decide⟩
  | 2,_,_=>⟨[35,86,65,76,85,69,33],rfl,by decide⟩
  | 3,_,_=>⟨[35,82,69,70,33],rfl,by decide⟩
  | 4,_,_=>⟨[35,78,85,77,33],rfl,by decide⟩
  | 5,_,_=>⟨[35,78,47,65],rfl,by decide⟩
  | 6,_,_=>⟨[35,67,73,82,67,76,69,33],rfl,by decide⟩
  | 7,_,_=>⟨[35,76,79,78,71,33],rfl,by decide⟩
  | 0,h1,_=>absurd h1 (by decide)
  | j+8,_,h2=>absurd h2 (by omega)
  )
 | j+9,h,_,_=>absurd h (by omega)
theorem zKw (tn lo kp:Nat) (en:Int) (w:World) (t:Wlx.TV) (r:List Wlx.TV) (hok:∀ x ∈ t::r,zAP x) (h:RS tn lo kp en w (t::r) 0 0) (hk:t.k=3) (Q:PR) (HW:∀ w',RS tn lo kp en w' (t::r) 0 0->Calls prog 148 #[.pointer (some ⟨kp,0,none⟩),.string ⟨t.t.toArray⟩] w' λe w2=>QPost tn lo kp en (t::r).length Q w' e w2) (RES:PR) (hres:RES=Q) :
  Calls prog 120 #[.pointer (some ⟨kp,0,none⟩)] w λe w'=>QPost tn lo kp en (t::r).length RES w e w':=by
 obtain ⟨hkl,hlo,h1024⟩:=h.lo;have hkw:kp<w.heap.size:=by omega
 have HRES:Hid (RES=Q):=hres;obtain ⟨g,len,cap,a,c0,c1,c3,hal,ha,t0,t1,t2⟩:=zAl h;have hge:decide (len<=a)=false:=by simp;omega
 have hge2:¬ len<=a:=by omega
 have HH:Hid (RS tn lo kp en w (t::r) 0 0):=h;obtain ⟨nl,hnl⟩:∃ nl,(t::r).length=nl:=⟨_,rfl⟩
 rw [hnl];rw [hk] at t0;rw [hnl] at HW;generalize (⟨t.t.toArray⟩:ByteArray)=tt at *;generalize t.p=tp at *;clear hk hres h hnl;go_enter func120,ntmps120;go_upto_region 3 with fail
 go_quiet (fail)
 have hb9:Below w.heap.size w (w.drewN nq):=zAG (Below.refl _ _) nq;obtain ⟨e0,e1,q0,q1,q2⟩:=zq0 hb9 c0 c1 t0 t1 t2;generalize w.drewN nq=W9 at *;clear c0 c1 c3 t0 t1 t2;have hbz:Below W9.heap.size W9 (W9.alloc (.cells #[.int .i64 0,.string ⟨#[]⟩,.int .i64 0] 107)):=zAI (Below.refl _ _) _;obtain ⟨y0,y1,y2,y3,y4⟩:=zq0 hbz e0 e1 q0 q1 q2;clear hbz;go_wp2_with fail
 go_region
 have hbA:Below w.heap.size w (W9.alloc (.cells #[.int .i64 3,.string tt,.int .i64 tp] 107)).drew:=(zAI hb9 _).drew;have pT:AtL (W9.alloc (.cells #[.int .i64 3,.string tt,.int .i64 tp] 107)).drew W9.heap.size [.int .i64 3,.string tt,.int .i64 tp]:=AtL.drew (AtL.new0 _ _ _);have hR:=HH.out.below hbA;have hG:w.grownBy (W9.alloc (.cells #[.int .i64 3,.string tt,.int .i64 tp] 107)).drew (some kp):=zAC hbA _;have hkt:w.heap.size<=W9.heap.size:=hb9.size;clear y0 y1 y2 y3 y4 e0 e1 q0 q1 q2 hb9 HH;go_upto_region 6 with fail
 generalize (W9.alloc (.cells #[.int .i64 3,.string tt,.int .i64 tp] 107)).drew=W at *;obtain ⟨kt,hkte⟩:∃ kt,W9.heap.size=kt:=⟨_,rfl⟩
 rw [hkte] at pT hkt ⊢;clear hkte;have x0:=pT.2.1 0 _ rfl;have x1:=pT.2.1 1 _ rfl;have hsW:=hG.size;refine zDN (HW W hR) (λHC=>?_) (λe w' q=>q.val);clear HW;go_wp2_with fail
 refine HC.mono ?_;rintro e w2 ⟨⟨v,rfl⟩,hQ⟩;go_wp2;go_ret;rw [HRES.out];exact hQ.from hG
theorem zJS (tn lo kp:Nat) (en:Int) (w:World) (t:Wlx.TV) (r:List Wlx.TV) (hok:∀ x ∈ t::r,zAP x) (h:RS tn lo kp en w (t::r) 0 0) (hk:t.k=1) (hb:Wnum.oB (Wnum.rdO ⟨t.t.toArray⟩)=true) (RES:PR) (hres:RES=.inl ([zAj (zIR (Wnum.oN (Wnum.rdO ⟨t.t.toArray⟩)) (Wnum.oD (Wnum.rdO ⟨t.t.toArray⟩)))],r)) :
  Calls prog 120 #[.pointer (some ⟨kp,0,none⟩)] w λe w'=>QPost tn lo kp en (t::r).length RES w e w':=by
 obtain ⟨hkl,hlo,h1024⟩:=h.lo;have hkw:kp<w.heap.size:=by omega
 have HRES:Hid (RES=.inl ([zAj (zIR (Wnum.oN (Wnum.rdO ⟨t.t.toArray⟩)) (Wnum.oD (Wnum.rdO ⟨t.t.toArray⟩)))],r)):=hres;obtain ⟨g,len,cap,a,c0,c1,c3,hal,ha,t0,t1,t2⟩:=zAl h;have hge:decide (len<=a)=false:=by simp;omega
 have hge2:¬ len<=a:=by omega
 have HH:Hid (RS tn lo kp en w (t::r) 0 0):=h;obtain ⟨nl,hnl⟩:∃ nl,(t::r).length=nl:=⟨_,rfl⟩
 rw [hnl];rw [hk] at t0;have RD1:=λw=>zDu ⟨t.t.toArray⟩ w (by show t.t.length<=_;have:=(hok t (by simp)).1;omega)
 rw [hb] at RD1;have bd:=zJx ⟨t.t.toArray⟩;have NU:=λw=>zCz (Wnum.oN (Wnum.rdO ⟨t.t.toArray⟩)) (Wnum.oD (Wnum.rdO ⟨t.t.toArray⟩)) w bd.1.1 bd.1.2 bd.2.1 bd.2.2
 generalize Wnum.oN (Wnum.rdO ⟨t.t.toArray⟩)=rn at *;generalize Wnum.oD (Wnum.rdO ⟨t.t.toArray⟩)=rd at *;have LF:=λw=>zBZ (zIR rn rd) w
 generalize zIR rn rd=vn at *;clear bd hk hb;generalize (⟨t.t.toArray⟩:ByteArray)=tt at *;generalize t.p=tp at *;clear hres h hnl;go_enter func120,ntmps120;go_upto_region 3 with fail
 go_quiet (fail)
 have hb9:Below w.heap.size w (w.drewN nq):=zAG (Below.refl _ _) nq;obtain ⟨e0,e1,q0,q1,q2⟩:=zq0 hb9 c0 c1 t0 t1 t2;generalize w.drewN nq=W9 at *;clear c0 c1 c3 t0 t1 t2;have hbz:Below W9.heap.size W9 (W9.alloc (.cells #[.int .i64 0,.string ⟨#[]⟩,.int .i64 0] 107)):=zAI (Below.refl _ _) _;obtain ⟨y0,y1,y2,y3,y4⟩:=zq0 hbz e0 e1 q0 q1 q2;clear hbz;go_wp2_with fail
 go_region
 have hbA:Below w.heap.size w (W9.alloc (.cells #[.int .i64 1,.string tt,.int .i64 tp] 107)).drew:=(zAI hb9 _).drew;have pT:AtL (W9.alloc (.cells #[.int .i64 1,.string tt,.int .i64 tp] 107)).drew W9.heap.size [.int .i64 1,.string tt,.int .i64 tp]:=AtL.drew (AtL.new0 _ _ _);have hR:=HH.out.below hbA;have hG:w.grownBy (W9.alloc (.cells #[.int .i64 1,.string tt,.int .i64 tp] 107)).drew (some kp):=zAC hbA _;have hkt:w.heap.size<=W9.heap.size:=hb9.size;clear y0 y1 y2 y3 y4 e0 e1 q0 q1 q2 hb9 HH;go_upto_region 6 with fail
 generalize (W9.alloc (.cells #[.int .i64 1,.string tt,.int .i64 tp] 107)).drew=W at *;obtain ⟨kt,hkte⟩:∃ kt,W9.heap.size=kt:=⟨_,rfl⟩
 rw [hkte] at pT hkt ⊢;clear hkte;have x0:=pT.2.1 0 _ rfl;have x1:=pT.2.1 1 _ rfl;have hsW:=hG.size;go_wp2_with fail
 refine (RD1 _).mono ?_;rintro e w2 ⟨rfl,hb2⟩;have hR2:=(hR.below hb2).below (zAI (Below.refl _ _) (.cells #[.int .i64 rn,.int .i64 rd] 24));have hG2:w.grownBy (w2.alloc (.cells #[.int .i64 rn,.int .i64 rd] 24)) (some kp):=zAB hG (zAC (zAI hb2 _) _);have pM:AtL (w2.alloc (.cells #[.int .i64 rn,.int .i64 rd] 24)) w2.heap.size [.int .i64 rn,.int .i64 rd]:=AtL.new0 _ _ _;have hz2:=hb2.size;clear hR hG hb2 x0 x1 pT;go_upto_region 9 with fail
 generalize w2.alloc (.cells #[.int .i64 rn,.int .i64 rd] 24)=W2 at *;obtain ⟨kn,hkn⟩:∃ kn,w2.heap.size=kn:=⟨_,rfl⟩
 rw [hkn] at pM ⊢;obtain ⟨a2,ha2,d1,z1,hR3,hG3⟩:=zAg hR2;have pM3:=pM.far (j:=kp) (by omega) 1 (.int .i64 ((a2:Int)+1));have HG3:Hid (w.grownBy (W2.setCell ⟨kp,1,none⟩ (.int .i64 ((a2:Int)+1))) (some kp)):=zAB hG2 hG3;clear hR2 hG2 hG3 pM;go_upto_region 12 with fail
 clear d1 z1;generalize W2.setCell ⟨kp,1,none⟩ (.int .i64 ((a2:Int)+1))=W3 at *;have m0:=pM3.2.1 0 _ rfl;have m1:=pM3.2.1 1 _ rfl;have hs3:=HG3.out.size;go_wp2_with fail
 refine (NU _).mono ?_;rintro e w4 ⟨rfl,hb4⟩;clear m0 m1;go_wp2_with fail
 refine (LF _).mono ?_;rintro e w5 ⟨u,rfl,own,hb5⟩;have hB5:=zAA hb4 hb5;have hz4:=hb4.size;go_wp2;go_ret;rw [HRES.out];exact ⟨zAB HG3.out (zAC hB5 _),u,rfl,zBc own (by omega),hR3.below hB5⟩
theorem zK9 (tn lo kp:Nat) (en:Int) (w:World) (t:Wlx.TV) (r:List Wlx.TV) (hok:∀ x ∈ t::r,zAP x) (h:RS tn lo kp en w (t::r) 0 0) (hk:t.k=1) (hb:Wnum.oB (Wnum.rdO ⟨t.t.toArray⟩)=false) (RES:PR) (hres:RES=.inr (50,pos (t::r) en)) :
  Calls prog 120 #[.pointer (some ⟨kp,0,none⟩)] w λe w'=>QPost tn lo kp en (t::r).length RES w e w':=by
 obtain ⟨hkl,hlo,h1024⟩:=h.lo;have hkw:kp<w.heap.size:=by omega
 have HRES:Hid (RES=.inr (50,pos (t::r) en)):=hres;obtain ⟨g,len,cap,a,c0,c1,c3,hal,ha,t0,t1,t2⟩:=zAl h;have hge:decide (len<=a)=false:=by simp;omega
 have hge2:¬ len<=a:=by omega
 have HH:Hid (RS tn lo kp en w (t::r) 0 0):=h;obtain ⟨nl,hnl⟩:∃ nl,(t::r).length=nl:=⟨_,rfl⟩
 rw [hnl];rw [hk] at t0;have RD1:=λw=>zDu ⟨t.t.toArray⟩ w (by show t.t.length<=_;have:=(hok t (by simp)).1;omega)
 rw [hb] at RD1;have bd:=zJx ⟨t.t.toArray⟩;have NU:=λw=>zCz (Wnum.oN (Wnum.rdO ⟨t.t.toArray⟩)) (Wnum.oD (Wnum.rdO ⟨t.t.toArray⟩)) w bd.1.1 bd.1.2 bd.2.1 bd.2.2
 generalize Wnum.oN (Wnum.rdO ⟨t.t.toArray⟩)=rn at *;generalize Wnum.oD (Wnum.rdO ⟨t.t.toArray⟩)=rd at *;have LF:=λw=>zBZ (zIR rn rd) w
 generalize zIR rn rd=vn at *;clear bd hk hb;generalize (⟨t.t.toArray⟩:ByteArray)=tt at *;generalize t.p=tp at *;clear hres h hnl;go_enter func120,ntmps120;go_upto_region 3 with fail
 go_quiet (fail)
 have hb9:Below w.heap.size w (w.drewN nq):=zAG (Below.refl _ _) nq;obtain ⟨e0,e1,q0,q1,q2⟩:=zq0 hb9 c0 c1 t0 t1 t2;generalize w.drewN nq=W9 at *;clear c0 c1 c3 t0 t1 t2;have hbz:Below W9.heap.size W9 (W9.alloc (.cells #[.int .i64 0,.string ⟨#[]⟩,.int .i64 0] 107)):=zAI (Below.refl _ _) _;obtain ⟨y0,y1,y2,y3,y4⟩:=zq0 hbz e0 e1 q0 q1 q2;clear hbz;go_wp2_with fail
 go_region
 have hbA:Below w.heap.size w (W9.alloc (.cells #[.int .i64 1,.string tt,.int .i64 tp] 107)).drew:=(zAI hb9 _).drew;have pT:AtL (W9.alloc (.cells #[.int .i64 1,.string tt,.int .i64 tp] 107)).drew W9.heap.size [.int .i64 1,.string tt,.int .i64 tp]:=AtL.drew (AtL.new0 _ _ _);have hR:=HH.out.below hbA;have hG:w.grownBy (W9.alloc (.cells #[.int .i64 1,.string tt,.int .i64 tp] 107)).drew (some kp):=zAC hbA _;have hkt:w.heap.size<=W9.heap.size:=hb9.size;clear y0 y1 y2 y3 y4 e0 e1 q0 q1 q2 hb9 HH;go_upto_region 6 with fail
 generalize (W9.alloc (.cells #[.int .i64 1,.string tt,.int .i64 tp] 107)).drew=W at *;obtain ⟨kt,hkte⟩:∃ kt,W9.heap.size=kt:=⟨_,rfl⟩
 rw [hkte] at pT hkt ⊢;clear hkte;have x0:=pT.2.1 0 _ rfl;have x1:=pT.2.1 1 _ rfl;have hsW:=hG.size;go_wp2_with fail
 refine (RD1 _).mono ?_;rintro e w2 ⟨rfl,hb2⟩;have hR2:=(hR.below hb2).below (zAI (Below.refl _ _) (.cells #[.int .i64 rn,.int .i64 rd] 24));have hG2:w.grownBy (w2.alloc (.cells #[.int .i64 rn,.int .i64 rd] 24)) (some kp):=zAB hG (zAC (zAI hb2 _) _);have pM:AtL (w2.alloc (.cells #[.int .i64 rn,.int .i64 rd] 24)) w2.heap.size [.int .i64 rn,.int .i64 rd]:=AtL.new0 _ _ _;have hz2:=hb2.size;clear hR hG hb2 x0 x1 pT;go_upto_region 9 with fail
 generalize w2.alloc (.cells #[.int .i64 rn,.int .i64 rd] 24)=W2 at *;obtain ⟨kn,hkn⟩:∃ kn,w2.heap.size=kn:=⟨_,rfl⟩
 rw [hkn] at pM ⊢;have F:=zAw tn lo kp en 50 W2 _ hR2;have hG:=hG2;clear hG2 pM;go_wp2_with fail
 refine F.mono ?_;rintro e w2 ⟨rfl,hR2,hg2⟩;go_wp2;go_ret;rw [HRES.out];exact ⟨zAB hG hg2,by decide,_,[],_,rfl,World.ownsRow_nil _ _ _ _,by simp,hR2⟩
theorem zJp (tn lo kp:Nat) (en:Int) (w:World) (t:Wlx.TV) (r:List Wlx.TV) (hok:∀ x ∈ t::r,zAP x) (h:RS tn lo kp en w (t::r) 0 0) (hk:t.k=2) (hb:t.t.length<=256) (RES:PR) (hres:RES=.inl ([zAj (zCZ ⟨t.t.toArray⟩)],r)) :
  Calls prog 120 #[.pointer (some ⟨kp,0,none⟩)] w λe w'=>QPost tn lo kp en (t::r).length RES w e w':=by
 obtain ⟨hkl,hlo,h1024⟩:=h.lo;have hkw:kp<w.heap.size:=by omega
 have HRES:Hid (RES=.inl ([zAj (zCZ ⟨t.t.toArray⟩)],r)):=hres;obtain ⟨g,len,cap,a,c0,c1,c3,hal,ha,t0,t1,t2⟩:=zAl h;have hge:decide (len<=a)=false:=by simp;omega
 have hge2:¬ len<=a:=by omega
 have HH:Hid (RS tn lo kp en w (t::r) 0 0):=h;obtain ⟨nl,hnl⟩:∃ nl,(t::r).length=nl:=⟨_,rfl⟩
 rw [hnl];rw [hk] at t0;have TX:=λw=>zEP ⟨t.t.toArray⟩ w (by show t.t.length<=_;have:=(hok t (by simp)).1;omega)
 have LF:=λw=>zBZ (zCZ ⟨t.t.toArray⟩) w
 have hsz:((⟨t.t.toArray⟩:ByteArray).size:Int)=(t.t.length:Int):=rfl;generalize zCZ ⟨t.t.toArray⟩=vn at *;generalize (⟨t.t.toArray⟩:ByteArray)=tt at *;have hgt:¬ (256:Int)<(tt.size:Int):=by omega
 clear hk hb hsz;generalize t.p=tp at *;clear hres h hnl;go_enter func120,ntmps120;go_upto_region 3 with fail
 go_quiet (fail)
 have hb9:Below w.heap.size w (w.drewN nq):=zAG (Below.refl _ _) nq;obtain ⟨e0,e1,q0,q1,q2⟩:=zq0 hb9 c0 c1 t0 t1 t2;generalize w.drewN nq=W9 at *;clear c0 c1 c3 t0 t1 t2;have hbz:Below W9.heap.size W9 (W9.alloc (.cells #[.int .i64 0,.string ⟨#[]⟩,.int .i64 0] 107)):=zAI (Below.refl _ _) _;obtain ⟨y0,y1,y2,y3,y4⟩:=zq0 hbz e0 e1 q0 q1 q2;clear hbz;go_wp2_with fail
 go_region
 have hbA:Below w.heap.size w (W9.alloc (.cells #[.int .i64 2,.string tt,.int .i64 tp] 107)).drew:=(zAI hb9 _).drew;have pT:AtL (W9.alloc (.cells #[.int .i64 2,.string tt,.int .i64 tp] 107)).drew W9.heap.size [.int .i64 2,.string tt,.int .i64 tp]:=AtL.drew (AtL.new0 _ _ _);have hR:=HH.out.below hbA;have hG:w.grownBy (W9.alloc (.cells #[.int .i64 2,.string tt,.int .i64 tp] 107)).drew (some kp):=zAC hbA _;have hkt:w.heap.size<=W9.heap.size:=hb9.size;clear y0 y1 y2 y3 y4 e0 e1 q0 q1 q2 hb9 HH;go_upto_region 6 with fail
 generalize (W9.alloc (.cells #[.int .i64 2,.string tt,.int .i64 tp] 107)).drew=W at *;obtain ⟨kt,hkte⟩:∃ kt,W9.heap.size=kt:=⟨_,rfl⟩
 rw [hkte] at pT hkt ⊢;clear hkte;have x0:=pT.2.1 0 _ rfl;have x1:=pT.2.1 1 _ rfl;have hsW:=hG.size;obtain ⟨a2,ha2,d1,z1,hR3,hG3⟩:=zAg hR;have x1':=(pT.far (j:=kp) (by omega) 1 (.int .i64 ((a2:Int)+1))).2.1 1 _ rfl;have HG3:Hid (w.grownBy (W.setCell ⟨kp,1,none⟩ (.int .i64 ((a2:Int)+1))) (some kp)):=zAB hG hG3;clear hR hG hG3 pT;go_upto_region 17 with fail
 clear d1 z1 x0 x1;generalize W.setCell ⟨kp,1,none⟩ (.int .i64 ((a2:Int)+1))=W3 at *;have hs3:=HG3.out.size;go_wp2_with fail
 refine (TX _).mono ?_;rintro e w4 ⟨rfl,hb4⟩;clear x1';go_wp2_with fail
 refine (LF _).mono ?_;rintro e w5 ⟨u,rfl,own,hb5⟩;have hB5:=zAA hb4 hb5;have hz4:=hb4.size;go_wp2;go_ret;rw [HRES.out];exact ⟨zAB HG3.out (zAC hB5 _),u,rfl,zBc own (by omega),hR3.below hB5⟩
theorem zIk (tn lo kp:Nat) (en:Int) (w:World) (t:Wlx.TV) (r:List Wlx.TV) (hok:∀ x ∈ t::r,zAP x) (h:RS tn lo kp en w (t::r) 0 0) (hk:t.k=2) (hb:¬ t.t.length<=256) (RES:PR) (hres:RES=.inr (50,pos (t::r) en)) :
  Calls prog 120 #[.pointer (some ⟨kp,0,none⟩)] w λe w'=>QPost tn lo kp en (t::r).length RES w e w':=by
 obtain ⟨hkl,hlo,h1024⟩:=h.lo;have hkw:kp<w.heap.size:=by omega
 have HRES:Hid (RES=.inr (50,pos (t::r) en)):=hres;obtain ⟨g,len,cap,a,c0,c1,c3,hal,ha,t0,t1,t2⟩:=zAl h;have hge:decide (len<=a)=false:=by simp;omega
 have hge2:¬ len<=a:=by omega
 have HH:Hid (RS tn lo kp en w (t::r) 0 0):=h;obtain ⟨nl,hnl⟩:∃ nl,(t::r).length=nl:=⟨_,rfl⟩
 rw [hnl];rw [hk] at t0;have TX:=λw=>zEP ⟨t.t.toArray⟩ w (by show t.t.length<=_;have:=(hok t (by simp)).1;omega)
 have LF:=λw=>zBZ (zCZ ⟨t.t.toArray⟩) w
 have hsz:((⟨t.t.toArray⟩:ByteArray).size:Int)=(t.t.length:Int):=rfl;generalize zCZ ⟨t.t.toArray⟩=vn at *;generalize (⟨t.t.toArray⟩:ByteArray)=tt at *;have hgt:(256:Int)<(tt.size:Int):=by omega
 clear hk hb hsz;generalize t.p=tp at *;clear hres h hnl;go_enter func120,ntmps120;go_upto_region 3 with fail
 go_quiet (fail)
 have hb9:Below w.heap.size w (w.drewN nq):=zAG (Below.refl _ _) nq;obtain ⟨e0,e1,q0,q1,q2⟩:=zq0 hb9 c0 c1 t0 t1 t2;generalize w.drewN nq=W9 at *;clear c0 c1 c3 t0 t1 t2;have hbz:Below W9.heap.size W9 (W9.alloc (.cells #[.int .i64 0,.string ⟨#[]⟩,.int .i64 0] 107)):=zAI (Below.refl _ _) _;obtain ⟨y0,y1,y2,y3,y4⟩:=zq0 hbz e0 e1 q0 q1 q2;clear hbz;go_wp2_with fail
 go_region
 have hbA:Below w.heap.size w (W9.alloc (.cells #[.int .i64 2,.string tt,.int .i64 tp] 107)).drew:=(zAI hb9 _).drew;have pT:AtL (W9.alloc (.cells #[.int .i64 2,.string tt,.int .i64 tp] 107)).drew W9.heap.size [.int .i64 2,.string tt,.int .i64 tp]:=AtL.drew (AtL.new0 _ _ _);have hR:=HH.out.below hbA;have hG:w.grownBy (W9.alloc (.cells #[.int .i64 2,.string tt,.int .i64 tp] 107)).drew (some kp):=zAC hbA _;have hkt:w.heap.size<=W9.heap.size:=hb9.size;clear y0 y1 y2 y3 y4 e0 e1 q0 q1 q2 hb9 HH;go_upto_region 6 with fail
 generalize (W9.alloc (.cells #[.int .i64 2,.string tt,.int .i64 tp] 107)).drew=W at *;obtain ⟨kt,hkte⟩:∃ kt,W9.heap.size=kt:=⟨_,rfl⟩
 rw [hkte] at pT hkt ⊢;clear hkte;have x0:=pT.2.1 0 _ rfl;have x1:=pT.2.1 1 _ rfl;have hsW:=hG.size;have F:=zAw tn lo kp en 50 W _ hR;go_wp2_with fail
 refine F.mono ?_;rintro e w2 ⟨rfl,hR2,hg2⟩;go_wp2;go_ret;rw [HRES.out];exact ⟨zAB hG hg2,by decide,_,[],_,rfl,World.ownsRow_nil _ _ _ _,by simp,hR2⟩
theorem zMM (tn lo kp:Nat) (en:Int) (w:World) (t:Wlx.TV) (r:List Wlx.TV) (hok:∀ x ∈ t::r,zAP x) (h:RS tn lo kp en w (t::r) 0 0) (hk:t.k=4) (RES:PR) (hres:RES=.inl ([zAj ⟨4,0,0,⟨#[]⟩,false,(fi t.t 0 fNames:Nat)⟩],r)) :
  Calls prog 120 #[.pointer (some ⟨kp,0,none⟩)] w λe w'=>QPost tn lo kp en (t::r).length RES w e w':=by
 obtain ⟨hkl,hlo,h1024⟩:=h.lo;have hkw:kp<w.heap.size:=by omega
 have HRES:Hid (RES=.inl ([zAj ⟨4,0,0,⟨#[]⟩,false,(fi t.t 0 fNames:Nat)⟩],r)):=hres;obtain ⟨g,len,cap,a,c0,c1,c3,hal,ha,t0,t1,t2⟩:=zAl h;have hge:decide (len<=a)=false:=by simp;omega
 have hge2:¬ len<=a:=by omega
 have HH:Hid (RS tn lo kp en w (t::r) 0 0):=h;obtain ⟨nl,hnl⟩:∃ nl,(t::r).length=nl:=⟨_,rfl⟩
 rw [hnl];rw [hk] at t0;have TX:∀ w:World,CR 102 #[.string ⟨t.t.toArray⟩] w (.agg (vl6 ⟨4,0,0,⟨#[]⟩,false,((fi t.t 0 fNames:Nat):Int)⟩).toArray):=by
  obtain ⟨i,hi,h1,e⟩:=(hok t (by simp)).2 hk;rw [e];exact λw=>zID i hi h1 w
 have LF:=λw=>zBZ ⟨4,0,0,⟨#[]⟩,false,((fi t.t 0 fNames:Nat):Int)⟩ w
 generalize (⟨4,0,0,⟨#[]⟩,false,((fi t.t 0 fNames:Nat):Int)⟩:Wt.Vl)=vn at *;generalize (⟨t.t.toArray⟩:ByteArray)=tt at *;clear hk;generalize t.p=tp at *;clear hres h hnl;go_enter func120,ntmps120;go_upto_region 3 with fail
 go_quiet (fail)
 have hb9:Below w.heap.size w (w.drewN nq):=zAG (Below.refl _ _) nq;obtain ⟨e0,e1,q0,q1,q2⟩:=zq0 hb9 c0 c1 t0 t1 t2;generalize w.drewN nq=W9 at *;clear c0 c1 c3 t0 t1 t2;have hbz:Below W9.heap.size W9 (W9.alloc (.cells #[.int .i64 0,.string ⟨#[]⟩,.int .i64 0] 107)):=zAI (Below.refl _ _) _;obtain ⟨y0,y1,y2,y3,y4⟩:=zq0 hbz e0 e1 q0 q1 q2;clear hbz;go_wp2_with fail
 go_region
 have hbA:Below w.heap.size w (W9.alloc (.cells #[.int .i64 4,.string tt,.int .i64 tp] 107)).drew:=(zAI hb9 _).drew;have pT:AtL (W9.alloc (.cells #[.int .i64 4,.string tt,.int .i64 tp] 107)).drew W9.heap.size [.int .i64 4,.string tt,.int .i64 tp]:=AtL.drew (AtL.new0 _ _ _);have hR:=HH.out.below hbA;have hG:w.grownBy (W9.alloc (.cells #[.int .i64 4,.string tt,.int .i64 tp] 107)).drew (some kp):=zAC hbA _;have hkt:w.heap.size<=W9.heap.size:=hb9.size;clear y0 y1 y2 y3 y4 e0 e1 q0 q1 q2 hb9 HH;go_upto_region 6 with fail
 generalize (W9.alloc (.cells #[.int .i64 4,.string tt,.int .i64 tp] 107)).drew=W at *;obtain ⟨kt,hkte⟩:∃ kt,W9.heap.size=kt:=⟨_,rfl⟩
 rw [hkte] at pT hkt ⊢;clear hkte;have x0:=pT.2.1 0 _ rfl;have x1:=pT.2.1 1 _ rfl;have hsW:=hG.size;obtain ⟨a2,ha2,d1,z1,hR3,hG3⟩:=zAg hR;have x1':=(pT.far (j:=kp) (by omega) 1 (.int .i64 ((a2:Int)+1))).2.1 1 _ rfl;have HG3:Hid (w.grownBy (W.setCell ⟨kp,1,none⟩ (.int .i64 ((a2:Int)+1))) (some kp)):=zAB hG hG3;clear hR hG hG3 pT;go_upto_region 20 with fail
 clear d1 z1 x0 x1;generalize W.setCell ⟨kp,1,none⟩ (.int .i64 ((a2:Int)+1))=W3 at *;have hs3:=HG3.out.size;go_wp2_with fail
 refine (TX _).mono ?_;rintro e w4 ⟨rfl,hb4⟩;clear x1';go_wp2_with fail
 refine (LF _).mono ?_;rintro e w5 ⟨u,rfl,own,hb5⟩;have hB5:=zAA hb4 hb5;have hz4:=hb4.size;go_wp2;go_ret;rw [HRES.out];exact ⟨zAB HG3.out (zAC hB5 _),u,rfl,zBc own (by omega),hR3.below hB5⟩
theorem zHe (tn lo kp:Nat) (en:Int) (w:World) (t:Wlx.TV) (r:List Wlx.TV) (hok:∀ x ∈ t::r,zAP x) (h:RS tn lo kp en w (t::r) 0 0) (h1:¬ t.k=1) (h2:¬ t.k=2) (h3:¬ t.k=3) (h4:¬ t.k=4) (hm:mkk (t::r) 0 [40]=false) (RES:PR) (hres:RES=.inr (50,pos (t::r) en)) :
  Calls prog 120 #[.pointer (some ⟨kp,0,none⟩)] w λe w'=>QPost tn lo kp en (t::r).length RES w e w':=by
 obtain ⟨hkl,hlo,h1024⟩:=h.lo;have hkw:kp<w.heap.size:=by omega
 have HRES:Hid (RES=.inr (50,pos (t::r) en)):=hres;obtain ⟨g,len,cap,a,c0,c1,c3,hal,ha,t0,t1,t2⟩:=zAl h;have hge:decide (len<=a)=false:=by simp;omega
 have hge2:¬ len<=a:=by omega
 have HH:Hid (RS tn lo kp en w (t::r) 0 0):=h;obtain ⟨nl,hnl⟩:∃ nl,(t::r).length=nl:=⟨_,rfl⟩
 rw [hnl];have g1:(t.k == 1)=false:=by simpa using h1
 have g2:(t.k == 2)=false:=by simpa using h2
 have g3:(t.k == 3)=false:=by simpa using h3
 have g4:(t.k == 4)=false:=by simpa using h4
 have MM:∀ w:World,RS tn lo kp en w (t::r) 0 0->Calls prog 96 #[.pointer (some ⟨kp,0,none⟩),.int .i64 0,.string ⟨#[40]⟩] w λe w'=>e=.returned (.bool false)/\w=w':=λw h=>by
  have:=zAK tn lo kp en w _ 0 0 0 (by omega) [40] h;rw [hm] at this;exact this
 generalize t.k=tk at *;generalize (⟨t.t.toArray⟩:ByteArray)=tt at *;clear h1 h2 h3 h4 hm;generalize t.p=tp at *;clear hres h hnl;go_enter func120,ntmps120;go_upto_region 3 with fail
 go_quiet (fail)
 have hb9:Below w.heap.size w (w.drewN nq):=zAG (Below.refl _ _) nq;obtain ⟨e0,e1,q0,q1,q2⟩:=zq0 hb9 c0 c1 t0 t1 t2;generalize w.drewN nq=W9 at *;clear c0 c1 c3 t0 t1 t2;have hbz:Below W9.heap.size W9 (W9.alloc (.cells #[.int .i64 0,.string ⟨#[]⟩,.int .i64 0] 107)):=zAI (Below.refl _ _) _;obtain ⟨y0,y1,y2,y3,y4⟩:=zq0 hbz e0 e1 q0 q1 q2;clear hbz;go_wp2_with fail
 go_region
 have hbA:Below w.heap.size w (W9.alloc (.cells #[.int .i64 tk,.string tt,.int .i64 tp] 107)).drew:=(zAI hb9 _).drew;have pT:AtL (W9.alloc (.cells #[.int .i64 tk,.string tt,.int .i64 tp] 107)).drew W9.heap.size [.int .i64 tk,.string tt,.int .i64 tp]:=AtL.drew (AtL.new0 _ _ _);have hR:=HH.out.below hbA;have hG:w.grownBy (W9.alloc (.cells #[.int .i64 tk,.string tt,.int .i64 tp] 107)).drew (some kp):=zAC hbA _;have hkt:w.heap.size<=W9.heap.size:=hb9.size;clear y0 y1 y2 y3 y4 e0 e1 q0 q1 q2 hb9 HH;go_upto_region 6 with fail
 generalize (W9.alloc (.cells #[.int .i64 tk,.string tt,.int .i64 tp] 107)).drew=W at *;obtain ⟨kt,hkte⟩:∃ kt,W9.heap.size=kt:=⟨_,rfl⟩
 rw [hkte] at pT hkt ⊢;clear hkte;have x0:=pT.2.1 0 _ rfl;have x1:=pT.2.1 1 _ rfl;have hsW:=hG.size;have F:=zAw tn lo kp en 50 W _ hR;have M:=MM W hR;go_wp2_with fail
 refine M.mono ?_;rintro e w1 ⟨rfl,rfl⟩;go_wp2_with fail
 refine F.mono ?_;rintro e w2 ⟨rfl,hR2,hg2⟩;go_wp2;go_ret;rw [HRES.out];exact ⟨zAB hG hg2,by decide,_,[],_,rfl,World.ownsRow_nil _ _ _ _,by simp,hR2⟩
theorem zJC (tn lo kp:Nat) (en:Int) (w:World) (t:Wlx.TV) (r:List Wlx.TV) (hok:∀ x ∈ t::r,zAP x) (h:RS tn lo kp en w (t::r) 0 0) (h5:t.k=5) (hm:mkk (t::r) 0 [40]=true) (sub:List Wlx.TV->PR) (n:Nat) (hn:r.length<=n) (HL:QLv tn lo kp en 0 sub n) (c:Int) (p:Int) (hs:sub r=.inr (c,p)) (RES:PR) (hres:RES=.inr (c,p)) :
  Calls prog 120 #[.pointer (some ⟨kp,0,none⟩)] w λe w'=>QPost tn lo kp en (t::r).length RES w e w':=by
 obtain ⟨hkl,hlo,h1024⟩:=h.lo;have hkw:kp<w.heap.size:=by omega
 have HRES:Hid (RES=.inr (c,p)):=hres;obtain ⟨g,len,cap,a,c0,c1,c3,hal,ha,t0,t1,t2⟩:=zAl h;have hge:decide (len<=a)=false:=by simp;omega
 have hge2:¬ len<=a:=by omega
 have HH:Hid (RS tn lo kp en w (t::r) 0 0):=h;obtain ⟨nl,hnl⟩:∃ nl,(t::r).length=nl:=⟨_,rfl⟩
 rw [hnl];rw [h5] at t0;have MM:∀ w:World,RS tn lo kp en w (t::r) 0 0->Calls prog 96 #[.pointer (some ⟨kp,0,none⟩),.int .i64 0,.string ⟨#[40]⟩] w λe w'=>e=.returned (.bool true)/\w=w':=λw h=>by
  have:=zAK tn lo kp en w _ 0 0 0 (by omega) [40] h;rw [hm] at this;exact this
 have SL:∀ (w:World),RS tn lo kp en w r 0 0->Calls prog 40 #[.pointer (some ⟨kp,0,none⟩),.int .i64 0] w λe w'=>QPost tn lo kp en r.length (sub r) w e w':=λw hR=>HL r w hn (λx hx=>hok x (List.mem_cons_of_mem _ hx)) hR
 rw [hs] at SL;have hnl2:r.length<=nl:=by rw [<-hnl];simp
 generalize (⟨t.t.toArray⟩:ByteArray)=tt at *;clear h5 hm HL hs;generalize t.p=tp at *;clear hres h hnl;go_enter func120,ntmps120;go_upto_region 3 with fail
 go_quiet (fail)
 have hb9:Below w.heap.size w (w.drewN nq):=zAG (Below.refl _ _) nq;obtain ⟨e0,e1,q0,q1,q2⟩:=zq0 hb9 c0 c1 t0 t1 t2;generalize w.drewN nq=W9 at *;clear c0 c1 c3 t0 t1 t2;have hbz:Below W9.heap.size W9 (W9.alloc (.cells #[.int .i64 0,.string ⟨#[]⟩,.int .i64 0] 107)):=zAI (Below.refl _ _) _;obtain ⟨y0,y1,y2,y3,y4⟩:=zq0 hbz e0 e1 q0 q1 q2;clear hbz;go_wp2_with fail
 go_region
 have hbA:Below w.heap.size w (W9.alloc (.cells #[.int .i64 5,.string tt,.int .i64 tp] 107)).drew:=(zAI hb9 _).drew;have pT:AtL (W9.alloc (.cells #[.int .i64 5,.string tt,.int .i64 tp] 107)).drew W9.heap.size [.int .i64 5,.string tt,.int .i64 tp]:=AtL.drew (AtL.new0 _ _ _);have hR:=HH.out.below hbA;have hG:w.grownBy (W9.alloc (.cells #[.int .i64 5,.string tt,.int .i64 tp] 107)).drew (some kp):=zAC hbA _;have hkt:w.heap.size<=W9.heap.size:=hb9.size;clear y0 y1 y2 y3 y4 e0 e1 q0 q1 q2 hb9 HH;go_upto_region 6 with fail
 generalize (W9.alloc (.cells #[.int .i64 5,.string tt,.int .i64 tp] 107)).drew=W at *;obtain ⟨kt,hkte⟩:∃ kt,W9.heap.size=kt:=⟨_,rfl⟩
 rw [hkte] at pT hkt ⊢;clear hkte;have x0:=pT.2.1 0 _ rfl;have x1:=pT.2.1 1 _ rfl;have hsW:=hG.size;have M:=MM W hR;obtain ⟨a2,ha2,d1,z1,hR3,hG3⟩:=zAg hR;have HG3:Hid (w.grownBy (W.setCell ⟨kp,1,none⟩ (.int .i64 ((a2:Int)+1))) (some kp)):=zAB hG hG3;clear hR hG hG3 pT;go_wp2_with fail
 refine M.mono ?_;rintro e w1 ⟨rfl,rfl⟩;clear M MM;go_upto_region 26 with fail
 clear d1 z1 x0 x1;generalize W.setCell ⟨kp,1,none⟩ (.int .i64 ((a2:Int)+1))=W3 at *;have S:=SL W3 hR3;have hs3:=HG3.out.size;go_wp2_with fail
 refine S.mono ?_;rintro e w2 ⟨hg2,hc,vb,row,ts2,rfl,ownb,hrw,hRb⟩;have hG2:w.grownBy w2 (some kp):=zAB HG3.out hg2;have ME:=zAK tn lo kp en w2 _ c p 0 (by omega) [41] hRb;have F:=zKp tn lo kp en 50 c p hc w2 _ hRb;have hcd:decide (c=0)=false:=by simpa using hc
 rw [hcd,Bool.false_and] at ME;clear S SL hcd;go_wp2_with fail
 refine ME.mono ?_;rintro e w5 ⟨rfl,rfl⟩;go_wp2_with fail
 refine F.mono ?_;rintro e w5 ⟨rfl,rfl⟩;go_wp2;go_ret;rw [HRES.out];exact ⟨hG2,hc,_,[],ts2,rfl,World.ownsRow_nil _ _ _ _,by simp,hRb⟩
theorem zKU (tn lo kp:Nat) (en:Int) (w:World) (t:Wlx.TV) (r:List Wlx.TV) (hok:∀ x ∈ t::r,zAP x) (h:RS tn lo kp en w (t::r) 0 0) (h5:t.k=5) (hm:mkk (t::r) 0 [40]=true) (sub:List Wlx.TV->PR) (n:Nat) (hn:r.length<=n) (HL:QLv tn lo kp en 0 sub n) (row:List Wt.Nd) (t6:Wlx.TV) (r2:List Wlx.TV) (hs:sub r=.inl (row,t6::r2)) (hm6:mkk (t6::r2) 0 [41]=true) (RES:PR) (hres:RES=.inl (row,r2)) :
  Calls prog 120 #[.pointer (some ⟨kp,0,none⟩)] w λe w'=>QPost tn lo kp en (t::r).length RES w e w':=by
 obtain ⟨hkl,hlo,h1024⟩:=h.lo;have hkw:kp<w.heap.size:=by omega
 have HRES:Hid (RES=.inl (row,r2)):=hres;obtain ⟨g,len,cap,a,c0,c1,c3,hal,ha,t0,t1,t2⟩:=zAl h;have hge:decide (len<=a)=false:=by simp;omega
 have hge2:¬ len<=a:=by omega
 have HH:Hid (RS tn lo kp en w (t::r) 0 0):=h;obtain ⟨nl,hnl⟩:∃ nl,(t::r).length=nl:=⟨_,rfl⟩
 rw [hnl];rw [h5] at t0;have MM:∀ w:World,RS tn lo kp en w (t::r) 0 0->Calls prog 96 #[.pointer (some ⟨kp,0,none⟩),.int .i64 0,.string ⟨#[40]⟩] w λe w'=>e=.returned (.bool true)/\w=w':=λw h=>by
  have:=zAK tn lo kp en w _ 0 0 0 (by omega) [40] h;rw [hm] at this;exact this
 have SL:∀ (w:World),RS tn lo kp en w r 0 0->Calls prog 40 #[.pointer (some ⟨kp,0,none⟩),.int .i64 0] w λe w'=>QPost tn lo kp en r.length (sub r) w e w':=λw hR=>HL r w hn (λx hx=>hok x (List.mem_cons_of_mem _ hx)) hR
 rw [hs] at SL;have hnl2:r.length<=nl:=by rw [<-hnl];simp
 generalize (⟨t.t.toArray⟩:ByteArray)=tt at *;clear h5 hm HL hs;generalize t.p=tp at *;clear hres h hnl;go_enter func120,ntmps120;go_upto_region 3 with fail
 go_quiet (fail)
 have hb9:Below w.heap.size w (w.drewN nq):=zAG (Below.refl _ _) nq;obtain ⟨e0,e1,q0,q1,q2⟩:=zq0 hb9 c0 c1 t0 t1 t2;generalize w.drewN nq=W9 at *;clear c0 c1 c3 t0 t1 t2;have hbz:Below W9.heap.size W9 (W9.alloc (.cells #[.int .i64 0,.string ⟨#[]⟩,.int .i64 0] 107)):=zAI (Below.refl _ _) _;obtain ⟨y0,y1,y2,y3,y4⟩:=zq0 hbz e0 e1 q0 q1 q2;clear hbz;go_wp2_with fail
 go_region
 have hbA:Below w.heap.size w (W9.alloc (.cells #[.int .i64 5,.string tt,.int .i64 tp] 107)).drew:=(zAI hb9 _).drew;have pT:AtL (W9.alloc (.cells #[.int .i64 5,.string tt,.int .i64 tp] 107)).drew W9.heap.size [.int .i64 5,.string tt,.int .i64 tp]:=AtL.drew (AtL.new0 _ _ _);have hR:=HH.out.below hbA;have hG:w.grownBy (W9.alloc (.cells #[.int .i64 5,.string tt,.int .i64 tp] 107)).drew (some kp):=zAC hbA _;have hkt:w.heap.size<=W9.heap.size:=hb9.size;clear y0 y1 y2 y3 y4 e0 e1 q0 q1 q2 hb9 HH;go_upto_region 6 with fail
 generalize (W9.alloc (.cells #[.int .i64 5,.string tt,.int .i64 tp] 107)).drew=W at *;obtain ⟨kt,hkte⟩:∃ kt,W9.heap.size=kt:=⟨_,rfl⟩
 rw [hkte] at pT hkt ⊢;clear hkte;have x0:=pT.2.1 0 _ rfl;have x1:=pT.2.1 1 _ rfl;have hsW:=hG.size;have M:=MM W hR;obtain ⟨a2,ha2,d1,z1,hR3,hG3⟩:=zAg hR;have HG3:Hid (w.grownBy (W.setCell ⟨kp,1,none⟩ (.int .i64 ((a2:Int)+1))) (some kp)):=zAB hG hG3;clear hR hG hG3 pT;go_wp2_with fail
 refine M.mono ?_;rintro e w1 ⟨rfl,rfl⟩;clear M MM;go_upto_region 26 with fail
 clear d1 z1 x0 x1;generalize W.setCell ⟨kp,1,none⟩ (.int .i64 ((a2:Int)+1))=W3 at *;have S:=SL W3 hR3;have hs3:=HG3.out.size;go_wp2_with fail
 refine S.mono ?_;rintro e w2 ⟨hg2,vb,rfl,ownb,hRb⟩;have hG2:w.grownBy w2 (some kp):=zAB HG3.out hg2;have ME:=zAK tn lo kp en w2 _ 0 0 0 (by omega) [41] hRb;rw [hm6] at ME;clear S SL;obtain ⟨a6,ha6,d6,z6,hR6,hG6⟩:=zAg hRb;have HG6:Hid (w.grownBy (w2.setCell ⟨kp,1,none⟩ (.int .i64 ((a6:Int)+1))) (some kp)):=zAB hG2 hG6;have HO6:Hid (OwnN (w2.setCell ⟨kp,1,none⟩ (.int .i64 ((a6:Int)+1))) W3.heap.size vb row):=zA9 ownb hG6 (by omega);have HR6:Hid (RS tn lo kp en (w2.setCell ⟨kp,1,none⟩ (.int .i64 ((a6:Int)+1))) r2 0 0):=hR6;clear hR6 hG6 hRb ownb hG2;go_wp2_with fail
 refine ME.mono ?_;rintro e w5 ⟨rfl,rfl⟩;go_wp2;go_ret;rw [HRES.out];exact ⟨HG6.out,vb,rfl,zBc HO6.out hs3,HR6.out⟩
theorem zKo (tn lo kp:Nat) (en:Int) (w:World) (t:Wlx.TV) (r:List Wlx.TV) (hok:∀ x ∈ t::r,zAP x) (h:RS tn lo kp en w (t::r) 0 0) (h5:t.k=5) (hm:mkk (t::r) 0 [40]=true) (sub:List Wlx.TV->PR) (n:Nat) (hn:r.length<=n) (HL:QLv tn lo kp en 0 sub n) (row:List Wt.Nd) (r2:List Wlx.TV) (hs:sub r=.inl (row,r2)) (hm6:mkk r2 0 [41]=false) (RES:PR) (hres:RES=.inr (50,pos r2 en)) :
  Calls prog 120 #[.pointer (some ⟨kp,0,none⟩)] w λe w'=>QPost tn lo kp en (t::r).length RES w e w':=by
 obtain ⟨hkl,hlo,h1024⟩:=h.lo;have hkw:kp<w.heap.size:=by omega
 have HRES:Hid (RES=.inr (50,pos r2 en)):=hres;obtain ⟨g,len,cap,a,c0,c1,c3,hal,ha,t0,t1,t2⟩:=zAl h;have hge:decide (len<=a)=false:=by simp;omega
 have hge2:¬ len<=a:=by omega
 have HH:Hid (RS tn lo kp en w (t::r) 0 0):=h;obtain ⟨nl,hnl⟩:∃ nl,(t::r).length=nl:=⟨_,rfl⟩
 rw [hnl];rw [h5] at t0;have MM:∀ w:World,RS tn lo kp en w (t::r) 0 0->Calls prog 96 #[.pointer (some ⟨kp,0,none⟩),.int .i64 0,.string ⟨#[40]⟩] w λe w'=>e=.returned (.bool true)/\w=w':=λw h=>by
  have:=zAK tn lo kp en w _ 0 0 0 (by omega) [40] h;rw [hm] at this;exact this
 have SL:∀ (w:World),RS tn lo kp en w r 0 0->Calls prog 40 #[.pointer (some ⟨kp,0,none⟩),.int .i64 0] w λe w'=>QPost tn lo kp en r.length (sub r) w e w':=λw hR=>HL r w hn (λx hx=>hok x (List.mem_cons_of_mem _ hx)) hR
 rw [hs] at SL;have hnl2:r.length<=nl:=by rw [<-hnl];simp
 generalize (⟨t.t.toArray⟩:ByteArray)=tt at *;clear h5 hm HL hs;generalize t.p=tp at *;clear hres h hnl;go_enter func120,ntmps120;go_upto_region 3 with fail
 go_quiet (fail)
 have hb9:Below w.heap.size w (w.drewN nq):=zAG (Below.refl _ _) nq;obtain ⟨e0,e1,q0,q1,q2⟩:=zq0 hb9 c0 c1 t0 t1 t2;generalize w.drewN nq=W9 at *;clear c0 c1 c3 t0 t1 t2;have hbz:Below W9.heap.size W9 (W9.alloc (.cells #[.int .i64 0,.string ⟨#[]⟩,.int .i64 0] 107)):=zAI (Below.refl _ _) _;obtain ⟨y0,y1,y2,y3,y4⟩:=zq0 hbz e0 e1 q0 q1 q2;clear hbz;go_wp2_with fail
 go_region
 have hbA:Below w.heap.size w (W9.alloc (.cells #[.int .i64 5,.string tt,.int .i64 tp] 107)).drew:=(zAI hb9 _).drew;have pT:AtL (W9.alloc (.cells #[.int .i64 5,.string tt,.int .i64 tp] 107)).drew W9.heap.size [.int .i64 5,.string tt,.int .i64 tp]:=AtL.drew (AtL.new0 _ _ _);have hR:=HH.out.below hbA;have hG:w.grownBy (W9.alloc (.cells #[.int .i64 5,.string tt,.int .i64 tp] 107)).drew (some kp):=zAC hbA _;have hkt:w.heap.size<=W9.heap.size:=hb9.size;clear y0 y1 y2 y3 y4 e0 e1 q0 q1 q2 hb9 HH;go_upto_region 6 with fail
 generalize (W9.alloc (.cells #[.int .i64 5,.string tt,.int .i64 tp] 107)).drew=W at *;obtain ⟨kt,hkte⟩:∃ kt,W9.heap.size=kt:=⟨_,rfl⟩
 rw [hkte] at pT hkt ⊢;clear hkte;have x0:=pT.2.1 0 _ rfl;have x1:=pT.2.1 1 _ rfl;have hsW:=hG.size;have M:=MM W hR;obtain ⟨a2,ha2,d1,z1,hR3,hG3⟩:=zAg hR;have HG3:Hid (w.grownBy (W.setCell ⟨kp,1,none⟩ (.int .i64 ((a2:Int)+1))) (some kp)):=zAB hG hG3;clear hR hG hG3 pT;go_wp2_with fail
 refine M.mono ?_;rintro e w1 ⟨rfl,rfl⟩;clear M MM;go_upto_region 26 with fail
 clear d1 z1 x0 x1;generalize W.setCell ⟨kp,1,none⟩ (.int .i64 ((a2:Int)+1))=W3 at *;have S:=SL W3 hR3;have hs3:=HG3.out.size;go_wp2_with fail
 refine S.mono ?_;rintro e w2 ⟨hg2,vb,rfl,ownb,hRb⟩;have hG2:w.grownBy w2 (some kp):=zAB HG3.out hg2;have ME:=zAK tn lo kp en w2 _ 0 0 0 (by omega) [41] hRb;rw [hm6] at ME;clear S SL;have F:=zAw tn lo kp en 50 w2 _ hRb;have hG:=hG2;go_wp2_with fail
 refine ME.mono ?_;rintro e w5 ⟨rfl,rfl⟩;go_wp2_with fail
 refine F.mono ?_;rintro e w6 ⟨rfl,hR2,hg2⟩;go_wp2;go_ret;rw [HRES.out];exact ⟨zAB hG hg2,by decide,_,[],_,rfl,World.ownsRow_nil _ _ _ _,by simp,hR2⟩
theorem zHZ (tn lo kp:Nat) (en:Int) (w:World) (h:RS tn lo kp en w [] 0 0):Calls prog 120 #[.pointer (some ⟨kp,0,none⟩)] w λe w'=>QPost tn lo kp en 0 (.inr (50,pos [] en)) w e w':=by
 obtain ⟨hkl,hlo,h1024⟩:=h.lo;obtain ⟨av,len,cap,a,c0,c1,c3,hal⟩:=zJi h;have hge:decide (len<=a)=true:=by simp;omega
 have hge2:len<=a:=by omega
 have HH:Hid (RS tn lo kp en w [] 0 0):=h;clear h;go_enter func120,ntmps120;go_upto_region 3 with fail
 go_quiet (fail)
 have hb9:Below w.heap.size w (w.drewN nq):=zAG (Below.refl _ _) nq;have F:=zAw tn lo kp en 50 (w.drewN nq) _ (HH.out.below hb9);generalize w.drewN nq=W9 at *;go_wp2_with fail
 refine F.mono ?_;rintro e w2 ⟨rfl,hR2,hg2⟩;go_wp2;go_ret;exact ⟨zAB (zAC hb9 _) hg2,by decide,_,[],_,rfl,World.ownsRow_nil _ _ _ _,by simp,hR2⟩
theorem zJh (us:List Wlx.TV):(∃ t r,us=t::r/\mkk us 0 [37]=true/\zB0 6 us=some ((3,[37],6),r)) \/ (mkk us 0 [37]=false/\zB0 6 us=none):=by
 cases us with
 | nil=>exact Or.inr ⟨rfl,rfl⟩
 | cons t r =>
  have e0:∀ m,mkk (t::r) 0 m=zCX t m:=λm=>rfl
  simp only [e0];unfold zB0 zCX;by_cases hk:t.k=5
  ·simp only [hk,beq_self_eq_true,Bool.true_and,if_true];by_cases h1:t.t=[37]
   ·rw [h1];exact Or.inl ⟨t,r,rfl,rfl,by rfl⟩
   ·have g1:(t.t == [37])=false:=by simpa using h1
    refine Or.inr ⟨g1,?_⟩;have e1:([37] == t.t)=false:=by simpa using λh=>h1 h.symm
    have:Wt.opAs t.t 6=none:=by
     unfold Wt.opAs Wt.opsT;simp [e1]
    rw [this];rfl
  ·have:(t.k == 5)=false:=by simp [hk]
   simp only [if_neg hk,this];exact Or.inr ⟨by simp,trivial⟩
theorem zIh (tn lo kp:Nat) (en:Int) (sub7:List Wlx.TV->PR) (n:Nat) (HP:QFn tn lo kp en 120 sub7 n) (hfit:∀ ts row r2,(∀ t ∈ ts,zAP t)->sub7 ts=.inl (row,r2)->zE5 ts.length row r2):QFn tn lo kp en 97 (ppc sub7) n:=by
 intro ts w hn hok h;obtain ⟨hkl,hlo,h1024⟩:=h.lo;have hkw:kp<w.heap.size:=by omega
 have S:=HP ts w hn hok h;have hft:=hfit ts;clear HP h hfit;unfold ppc;cases hs:sub7 ts with
 | inr q =>
  obtain ⟨c,p⟩:=q;rw [hs] at S;clear hft hs;simp only;go_enter func97,ntmps97;go_wp2_with fail
  refine S.mono ?_;rintro e w1 ⟨hg,hc,v,row,ts2,rfl,own,hl,hR⟩;have M:=zAK tn lo kp en w1 _ c p 0 (by omega) [37] hR;have hcd:decide (c=0)=false:=by simpa using hc
  rw [hcd,Bool.false_and] at M;go_wp2_with fail
  go_loopg [3] 0 (λgk x wr=>x=v/\gk=0/\w1=wr)
  case atStart=>exact ⟨rfl,rfl,rfl⟩
  case round =>
   obtain ⟨rfl,hgk,rfl⟩:=hrel;go_wp2_with fail
   refine M.mono ?_;rintro e w2 ⟨rfl,rfl⟩;go_wp2;go_ret;exact ⟨hg,hc,_,row,ts2,rfl,own,hl,hR⟩
 | inl q =>
  obtain ⟨row0,rest⟩:=q;rw [hs] at S;obtain ⟨-,hf⟩:=hft row0 rest hok hs;clear hft hs;simp only;obtain ⟨RS0,hRS0⟩:∃ q:PR,q=pct rest.length row0 rest:=⟨_,rfl⟩
  rw [<-hRS0];have HQ0:Hid (RS0=pct rest.length row0 rest):=hRS0;clear hRS0;go_enter func97,ntmps97;go_wp2_with fail
  refine S.mono ?_;rintro e w1 ⟨hg1,v1,rfl,own1,hR1⟩;clear S;go_wp2_with fail
  go_loopg [3] rest.length (λgk x wr=>∃ (row:List Wt.Nd) (us:List Wlx.TV),gk=us.length/\row.length+us.length<=ts.length/\Hid (RS0=pct us.length row us)/\Hid (OwnN wr w.heap.size x row)/\Hid (RS tn lo kp en wr us 0 0)/\Hid (w.grownBy wr (some kp)))
  case atStart=>exact ⟨row0,rest,rfl,hf,HQ0,own1,hR1,hg1⟩
  case round =>
   clear HQ0 own1 hR1 hg1 hf;obtain ⟨row,us,hgk,hf,HQ,HO,HR,HG⟩:=hrel;rcases zJh us with ⟨t,r,rfl,hm,ht⟩ | ⟨hm,ht⟩
   ·have M1:=zAK tn lo kp en wr _ 0 0 0 (by omega) [37] HR.out;rw [hm] at M1;obtain ⟨a,ha,c1,z1,hR,hG⟩:=zAg HR.out;have HQ2:Hid (RS0=pct r.length (opN 4 3::row) r):=by
     show _=_
     rw [HQ.out,zEt,ht];rfl
    have HR2:Hid (RS tn lo kp en (wr.setCell ⟨kp,1,none⟩ (.int .i64 ((a:Int)+1))) r 0 0):=hR;have HG2:Hid (w.grownBy (wr.setCell ⟨kp,1,none⟩ (.int .i64 ((a:Int)+1))) (some kp)):=zAB HG.out hG;have HO2:Hid (OwnN (wr.setCell ⟨kp,1,none⟩ (.int .i64 ((a:Int)+1))) w.heap.size u3 row):=zA9 HO.out hG hkw;have hf2:row.length+r.length+1<=ts.length:=by simp only [List.length_cons] at hf;omega
    clear hR hG HQ HO HR HG hm ht hf;go_wp2_with fail
    refine M1.mono ?_;rintro e w2 ⟨rfl,rfl⟩;clear M1;go_upto_region 4 with fail
    obtain ⟨W,hW⟩:∃ W,wr.setCell ⟨kp,1,none⟩ (.int .i64 ((a:Int)+1))=W:=⟨_,rfl⟩
    rw [hW] at HR2 HG2 HO2 ⊢;have hR:=HR2.out;have hG:=HG2.out;have hO:=HO2.out;have hsW:=hG.size;clear hW HR2 HG2 HO2 c1 z1;go_wp2_with (first
     | ((with_reducible refine zAx ?_ (.const (.int .i64 4)) (.const (.int .i64 3)) ?_ 4 3 ?_ ?_ ?_);rfl;rfl;rfl;rfl)
     | ((with_reducible refine zAR ?_ (.tmp 17) ?_ (opN 4 3) ?_ ?_);rfl;rfl;rfl)
     | (at_builtin;refine zAL (by rfl) (.tmp 16) (.tmp 18) (by rfl) _ w.heap.size (by simp only [World.size_alloc];omega) _ [] (by rfl) (World.ownsRow_nil _ _ _ _) _ _ [opN 4 3] (by rfl) (zAf W (opN 4 3)) (λ_=>by simp) ?_))
    intro va wa rowa owna hga hra hva;have hGa:w.grownBy wa (some kp):=zAO (zAB hG (World.grownBy_alloc _ _ _)) hga hra;have hRa:=(hR.row (World.grownBy_alloc W _ none) (by simp)).row hga (λb e=>Nat.le_trans hlo (hra b e));have hsa:=hGa.size;have hOa:OwnN wa w.heap.size u3 row:=zBt (zBt hO (World.grownBy_alloc W _ none) (by simp)) hga (λb e=>by have:=hva b e;simp [Value.ownBlock] at this);clear hga hra hva hR hG hO;go_wp2_with (at_builtin;refine zAL (by rfl) (.tmp 20) (.tmp 21) (by rfl) wa w.heap.size hsa va [opN 4 3] (by rfl) owna u3 _ row (by rfl) hOa (λ_=>by simp only [List.length_singleton];omega) ?_)
    intro vc wc rowc ownc hgc hrc _;have HGc:Hid (w.grownBy wc (some kp)):=zAO hGa hgc hrc;have HRc:Hid (RS tn lo kp en wc r 0 0):=hRa.row hgc (λb e=>Nat.le_trans hlo (hrc b e));have HOc:Hid (OwnN wc w.heap.size vc (opN 4 3::row)):=ownc;clear owna hOa hGa hRa hgc hrc ownc;go_wp2_with fail
    go_roundg (r.length)
    case rel=>exact ⟨opN 4 3::row,r,rfl,by simp only [List.length_cons];omega,HQ2,HOc,HRc,HGc⟩
    case measure=>simp only [List.length_cons] at hgk;omega
   ·have M1:=zAK tn lo kp en wr _ 0 0 0 (by omega) [37] HR.out;rw [hm] at M1;have HQ2:Hid (RS0=.inl (row,us)):=by
     show _=_
     rw [HQ.out,zEt,ht]
    clear HQ;go_wp2_with fail
    refine M1.mono ?_;rintro e w2 ⟨rfl,rfl⟩;go_wp2;go_ret;rw [HQ2.out];exact ⟨HG.out,_,rfl,HO.out,HR.out⟩
