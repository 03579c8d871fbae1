/- TQPrime. -/
import Derived.Test.YtdghjlmnlodnlaaGreatDoorQ40
set_option maxHeartbeats 3200000
set_option maxRecDepth 100000
namespace Go.Proofs.YtdghjlmnlodnlaaGreatDoor
open Go.RowKit Go.Shelf Tryz
set_option linter.unusedVariables false
theorem QPost.from {tn lo kp:Nat} {en:Int} {n:Nat} {q:PR} {w w1 w':World} {e:Ending} (h:QPost tn lo kp en n q w1 e w') (hg:w.grownBy w1 (some kp)):QPost tn lo kp en n q w e w':=by
 obtain ⟨h1,h2⟩:=h;refine ⟨zAB hg h1,?_⟩;have hs:=hg.size;cases q with
 | inl q=>obtain ⟨v,e1,own,hr⟩:=h2;exact ⟨v,e1,zBf own hs,hr⟩
 | inr q=>obtain ⟨hc,v,row,ts,e1,own,hl,hr⟩:=h2;exact ⟨hc,v,row,ts,e1,zBf own hs,hl,hr⟩
theorem zIU:∀ (i:Nat) (h:i<9),1<=i->∀ (w:World),CR 102 #[.string ⟨(fNames[i]'h).toArray⟩] w (.agg (vl6 ⟨4,0,0,⟨#[]⟩,false,((fi (fNames[i]'h) 0 fNames:Nat):Int)⟩).toArray)
 | 0,_,h,_=>absurd h (by decide)
 | 1,_,_,w=>zB3 [68,73,86,47,48,33] 1 (by decide) (by decide) w (by decide) (by decide +kernel) (by decide) (by decide) rfl (λj h1 h2=>match j,h1,h2 with
  | 0,h1,_=>absurd h1 (by decide)
  | j+1,_,h2=>absurd h2 (by omega)
  )
 | 2,_,_,w=>zB3 [86,65,76,85,69,33] 2 (by decide) (by decide) w (by decide) (by decide +kernel) (by decide) (by decide) rfl (λj h1 h2=>match j,h1,h2 with
  | 1,_,_=>⟨[35,68,73,86,47,48,33],rfl,by decide⟩
  | 0,h1,_=>absurd h1 (by decide)
  | j+2,_,h2=>absurd h2 (by omega)
  )
 | 3,_,_,w=>zB3 [82,69,70,33] 3 (by decide) (by decide) w (by decide) (by decide +kernel) (by decide) (by decide) rfl (λj h1 h2=>match j,h1,h2 with
  | 1,_,_=>⟨[35,68,73,86,47,48,33],rfl,by decide⟩
  | 2,_,_=>⟨[35,86,65,76,85,69,33],rfl,by decide⟩
  | 0,h1,_=>absurd h1 (by decide)
  | j+3,_,h2=>absurd h2 (by omega)
  )
 | 4,_,_,w=>zB3 [78,85,77,33] 4 (by decide) (by decide) w (by decide) (by decide +kernel) (by decide) (by decide) rfl (λj h1 h2=>match j,h1,h2 with
  | 1,_,_=>⟨[35,68,73,86,47,48,33],rfl,by decide⟩
  | 2,_,_=>⟨[35,86,65,76,85,69,33],rfl,by decide⟩
  | 3,_,_=>⟨[35,82,69,70,33],rfl,by decide⟩
  | 0,h1,_=>absurd h1 (by decide)
  | j+4,_,h2=>absurd h2 (by omega)
  )
 | 5,_,_,w=>zB3 [78,47,65] 5 (by decide) (by decide) w (by decide) (by decide +kernel) (by decide) (by decide) rfl (λj h1 h2=>match j,h1,h2 with
  | 1,_,_=>⟨[35,68,73,86,47,48,33],rfl,by decide⟩
  | 2,_,_=>⟨[35,86,65,76,85,69,33],rfl,by decide⟩
  | 3,_,_=>⟨[35,82,69,70,33],rfl,by decide⟩
  | 4,_,_=>⟨[35,78,85,77,33],rfl,by decide⟩
  | 0,h1,_=>absurd h1 (by decide)
  | j+5,_,h2=>absurd h2 (by omega)
  )
 | 6,_,_,w=>zB3 [67,73,82,67,76,69,33] 6 (by decide) (by decide) w (by decide) (by decide +kernel) (by decide) (by decide) rfl (λj h1 h2=>match j,h1,h2 with
  | 1,_,_=>⟨[35,68,73,86,47,48,33],rfl,by decide⟩
  | 2,_,_=>⟨[35,86,65,76,85,69,33],rfl,by decide⟩
  | 3,_,_=>⟨[35,82,69,70,33],rfl,by decide⟩
  | 4,_,_=>⟨[35,78,85,77,33],rfl,by decide⟩
  | 5,_,_=>⟨[35,78,47,65],rfl,by decide⟩
  | 0,h1,_=>absurd h1 (by decide)
  | j+6,_,h2=>absurd h2 (by omega)
  )
 | 7,_,_,w=>zB3 [76,79,78,71,33] 7 (by decide) (by decide) w (by decide) (by decide +kernel) (by decide) (by decide) rfl (λj h1 h2=>match j,h1,h2 with
  | 1,_,_=>⟨[35,68,73,86,47,48,33],rfl,by decide⟩
  | 2,_,_=>⟨[35,86,65,76,85,69,33],rfl,by decide⟩
  | 3,_,_=>⟨[35,82,69,70,33],rfl,by decide⟩
  | 4,_,_=>⟨[35,78,85,77,33],rfl,by decide⟩
  | 5,_,_=>⟨[35,78,47,65],rfl,by decide⟩
  | 6,_,_=>⟨[35,67,73,82,67,76,69,33],rfl,by decide⟩
  | 0,h1,_=>absurd h1 (by decide)
  | j+7,_,h2=>absurd h2 (by omega)
  )
 | 8,_,_,w=>zB3 [65,82,71,33] 8 (by decide) (by decide) w (by decide) (by decide +kernel) (by decide) (by decide) rfl (λj h1 h2=>match j,h1,h2 with
  | 1,_,_=>⟨[35,68,73,86,47,48,33],rfl,by decide⟩
  | 2,_,_=>⟨[35,86,65,76,85,69,33],rfl,by decide⟩
  | 3,_,_=>⟨[35,82,69,70,33],rfl,by decide⟩
  | 4,_,_=>⟨[35,78,85,77,33],rfl,by decide⟩
  | 5,_,_=>⟨[35,78,47,65],rfl,by decide⟩
  | 6,_,_=>⟨[35,67,73,82,67,76,69,33],rfl,by decide⟩
  | 7,_,_=>⟨[35,76,79,78,71,33],rfl,by decide⟩
  | 0,h1,_=>absurd h1 (by decide)
  | j+8,_,h2=>absurd h2 (by omega)
  )
 | j+9,h,_,_=>absurd h (by omega)
theorem zMr (tn lo kp:Nat) (en:Int) (w:World) (t:Wlx.TV) (r:List Wlx.TV) (hok:∀ x ∈ t::r,zAP x) (h:RS tn lo kp en w (t::r) 0 0) (hk:t.k=3) (Q:PR) (HW:∀ w',RS tn lo kp en w' (t::r) 0 0->Calls prog 148 #[.pointer (some ⟨kp,0,none⟩),.string ⟨t.t.toArray⟩] w' λe w2=>QPost tn lo kp en (t::r).length Q w' e w2) (RES:PR) (hres:RES=Q) :
  Calls prog 120 #[.pointer (some ⟨kp,0,none⟩)] w λe w'=>QPost tn lo kp en (t::r).length RES w e w':=by
 obtain ⟨hkl,hlo,h1024⟩:=h.lo;have hkw:kp<w.heap.size:=by omega
 have HRES:Hid (RES=Q):=hres;obtain ⟨g,len,cap,a,c0,c1,c3,hal,ha,t0,t1,t2⟩:=zAn h;have hge:decide (len<=a)=false:=by simp;omega
 have hge2:¬ len<=a:=by omega
 have HH:Hid (RS tn lo kp en w (t::r) 0 0):=h;obtain ⟨nl,hnl⟩:∃ nl,(t::r).length=nl:=⟨_,rfl⟩
 rw [hnl];rw [hk] at t0;rw [hnl] at HW;generalize (⟨t.t.toArray⟩:ByteArray)=tt at *;generalize t.p=tp at *;clear hk hres h hnl;go_enter func120,ntmps120;go_upto_region 3 with fail
 go_quiet (fail)
 have hb9:Below w.heap.size w (w.drewN nq):=zAH (Below.refl _ _) nq;have e0:=zAD hb9 c0;have e1:=zAD hb9 c1;have q0:=zAD hb9 t0;have q1:=zAD hb9 t1;have q2:=zAD hb9 t2;generalize w.drewN nq=W9 at *;clear c0 c1 c3 t0 t1 t2;have hbz:Below W9.heap.size W9 (W9.alloc (.cells #[.int .i64 0,.string ⟨#[]⟩,.int .i64 0] 107)):=zAI (Below.refl _ _) _;have y0:=zAD hbz e0;have y1:=zAD hbz e1;have y2:=zAD hbz q0;have y3:=zAD hbz q1;have y4:=zAD hbz q2;clear hbz;go_wp2_with fail
 go_region
 have hbA:Below w.heap.size w (W9.alloc (.cells #[.int .i64 3,.string tt,.int .i64 tp] 107)).drew:=(zAI hb9 _).drew;have pT:AtL (W9.alloc (.cells #[.int .i64 3,.string tt,.int .i64 tp] 107)).drew W9.heap.size [.int .i64 3,.string tt,.int .i64 tp]:=AtL.drew (AtL.new0 _ _ _);have hR:=HH.out.below hbA;have hG:w.grownBy (W9.alloc (.cells #[.int .i64 3,.string tt,.int .i64 tp] 107)).drew (some kp):=zAC hbA _;have hkt:w.heap.size<=W9.heap.size:=hb9.size;clear y0 y1 y2 y3 y4 e0 e1 q0 q1 q2 hb9 HH;go_upto_region 6 with fail
 generalize (W9.alloc (.cells #[.int .i64 3,.string tt,.int .i64 tp] 107)).drew=W at *;obtain ⟨kt,hkte⟩:∃ kt,W9.heap.size=kt:=⟨_,rfl⟩
 rw [hkte] at pT hkt ⊢;clear hkte;have x0:=pT.2.1 0 _ rfl;have x1:=pT.2.1 1 _ rfl;have hsW:=hG.size;refine zDQ (HW W hR) (λHC=>?_) (λe w' q=>q.val);clear HW;go_wp2_with fail
 refine HC.mono ?_;rintro e w2 ⟨⟨v,rfl⟩,hQ⟩;go_wp2;go_ret;rw [HRES.out];exact hQ.from hG
theorem zJN (tn lo kp:Nat) (en:Int) (w:World) (t:Wlx.TV) (r:List Wlx.TV) (hok:∀ x ∈ t::r,zAP x) (h:RS tn lo kp en w (t::r) 0 0) (hk:t.k=1) (hb:Wnum.oB (Wnum.rdO ⟨t.t.toArray⟩)=true) (RES:PR) (hres:RES=.inl ([zAk (zII (Wnum.oN (Wnum.rdO ⟨t.t.toArray⟩)) (Wnum.oD (Wnum.rdO ⟨t.t.toArray⟩)))],r)) :
  Calls prog 120 #[.pointer (some ⟨kp,0,none⟩)] w λe w'=>QPost tn lo kp en (t::r).length RES w e w':=by
 obtain ⟨hkl,hlo,h1024⟩:=h.lo;have hkw:kp<w.heap.size:=by omega
 have HRES:Hid (RES=.inl ([zAk (zII (Wnum.oN (Wnum.rdO ⟨t.t.toArray⟩)) (Wnum.oD (Wnum.rdO ⟨t.t.toArray⟩)))],r)):=hres;obtain ⟨g,len,cap,a,c0,c1,c3,hal,ha,t0,t1,t2⟩:=zAn h;have hge:decide (len<=a)=false:=by simp;omega
 have hge2:¬ len<=a:=by omega
 have HH:Hid (RS tn lo kp en w (t::r) 0 0):=h;obtain ⟨nl,hnl⟩:∃ nl,(t::r).length=nl:=⟨_,rfl⟩
 rw [hnl];rw [hk] at t0;have RD1:=λw=>zDf ⟨t.t.toArray⟩ w (by show t.t.length<=_;have:=(hok t (by simp)).1;omega)
 rw [hb] at RD1;have bd:=zKh ⟨t.t.toArray⟩;have NU:=λw=>zDH (Wnum.oN (Wnum.rdO ⟨t.t.toArray⟩)) (Wnum.oD (Wnum.rdO ⟨t.t.toArray⟩)) w bd.1.1 bd.1.2 bd.2.1 bd.2.2
 generalize Wnum.oN (Wnum.rdO ⟨t.t.toArray⟩)=rn at *;generalize Wnum.oD (Wnum.rdO ⟨t.t.toArray⟩)=rd at *;have LF:=λw=>zB0 (zII rn rd) w
 generalize zII rn rd=vn at *;clear bd hk hb;generalize (⟨t.t.toArray⟩:ByteArray)=tt at *;generalize t.p=tp at *;clear hres h hnl;go_enter func120,ntmps120;go_upto_region 3 with fail
 go_quiet (fail)
 have hb9:Below w.heap.size w (w.drewN nq):=zAH (Below.refl _ _) nq;have e0:=zAD hb9 c0;have e1:=zAD hb9 c1;have q0:=zAD hb9 t0;have q1:=zAD hb9 t1;have q2:=zAD hb9 t2;generalize w.drewN nq=W9 at *;clear c0 c1 c3 t0 t1 t2;have hbz:Below W9.heap.size W9 (W9.alloc (.cells #[.int .i64 0,.string ⟨#[]⟩,.int .i64 0] 107)):=zAI (Below.refl _ _) _;have y0:=zAD hbz e0;have y1:=zAD hbz e1;have y2:=zAD hbz q0;have y3:=zAD hbz q1;have y4:=zAD hbz q2;clear hbz;go_wp2_with fail
 go_region
 have hbA:Below w.heap.size w (W9.alloc (.cells #[.int .i64 1,.string tt,.int .i64 tp] 107)).drew:=(zAI hb9 _).drew;have pT:AtL (W9.alloc (.cells #[.int .i64 1,.string tt,.int .i64 tp] 107)).drew W9.heap.size [.int .i64 1,.string tt,.int .i64 tp]:=AtL.drew (AtL.new0 _ _ _);have hR:=HH.out.below hbA;have hG:w.grownBy (W9.alloc (.cells #[.int .i64 1,.string tt,.int .i64 tp] 107)).drew (some kp):=zAC hbA _;have hkt:w.heap.size<=W9.heap.size:=hb9.size;clear y0 y1 y2 y3 y4 e0 e1 q0 q1 q2 hb9 HH;go_upto_region 6 with fail
 generalize (W9.alloc (.cells #[.int .i64 1,.string tt,.int .i64 tp] 107)).drew=W at *;obtain ⟨kt,hkte⟩:∃ kt,W9.heap.size=kt:=⟨_,rfl⟩
 rw [hkte] at pT hkt ⊢;clear hkte;have x0:=pT.2.1 0 _ rfl;have x1:=pT.2.1 1 _ rfl;have hsW:=hG.size;go_wp2_with fail
 refine (RD1 _).mono ?_;rintro e w2 ⟨rfl,hb2⟩;have hR2:=(hR.below hb2).below (zAI (Below.refl _ _) (.cells #[.int .i64 rn,.int .i64 rd] 24));have hG2:w.grownBy (w2.alloc (.cells #[.int .i64 rn,.int .i64 rd] 24)) (some kp):=zAB hG (zAC (zAI hb2 _) _);have pM:AtL (w2.alloc (.cells #[.int .i64 rn,.int .i64 rd] 24)) w2.heap.size [.int .i64 rn,.int .i64 rd]:=AtL.new0 _ _ _;have hz2:=hb2.size;clear hR hG hb2 x0 x1 pT;go_upto_region 9 with fail
 generalize w2.alloc (.cells #[.int .i64 rn,.int .i64 rd] 24)=W2 at *;obtain ⟨kn,hkn⟩:∃ kn,w2.heap.size=kn:=⟨_,rfl⟩
 rw [hkn] at pM ⊢;obtain ⟨a2,ha2,d1,z1,hR3,hG3⟩:=zAh hR2;have pM3:=pM.far (j:=kp) (by omega) 1 (.int .i64 ((a2:Int)+1));have HG3:Hid (w.grownBy (W2.setCell ⟨kp,1,none⟩ (.int .i64 ((a2:Int)+1))) (some kp)):=zAB hG2 hG3;clear hR2 hG2 hG3 pM;go_upto_region 12 with fail
 clear d1 z1;generalize W2.setCell ⟨kp,1,none⟩ (.int .i64 ((a2:Int)+1))=W3 at *;have m0:=pM3.2.1 0 _ rfl;have m1:=pM3.2.1 1 _ rfl;have hs3:=HG3.out.size;go_wp2_with fail
 refine (NU _).mono ?_;rintro e w4 ⟨rfl,hb4⟩;clear m0 m1;go_wp2_with fail
 refine (LF _).mono ?_;rintro e w5 ⟨u,rfl,own,hb5⟩;have hB5:=zAA hb4 hb5;have hz4:=hb4.size;go_wp2;go_ret;rw [HRES.out];exact ⟨zAB HG3.out (zAC hB5 _),u,rfl,zBf own (by omega),hR3.below hB5⟩
theorem zK5 (tn lo kp:Nat) (en:Int) (w:World) (t:Wlx.TV) (r:List Wlx.TV) (hok:∀ x ∈ t::r,zAP x) (h:RS tn lo kp en w (t::r) 0 0) (hk:t.k=1) (hb:Wnum.oB (Wnum.rdO ⟨t.t.toArray⟩)=false) (RES:PR) (hres:RES=.inr (50,pos (t::r) en)) :
  Calls prog 120 #[.pointer (some ⟨kp,0,none⟩)] w λe w'=>QPost tn lo kp en (t::r).length RES w e w':=by
 obtain ⟨hkl,hlo,h1024⟩:=h.lo;have hkw:kp<w.heap.size:=by omega
 have HRES:Hid (RES=.inr (50,pos (t::r) en)):=hres;obtain ⟨g,len,cap,a,c0,c1,c3,hal,ha,t0,t1,t2⟩:=zAn h;have hge:decide (len<=a)=false:=by simp;omega
 have hge2:¬ len<=a:=by omega
 have HH:Hid (RS tn lo kp en w (t::r) 0 0):=h;obtain ⟨nl,hnl⟩:∃ nl,(t::r).length=nl:=⟨_,rfl⟩
 rw [hnl];rw [hk] at t0;have RD1:=λw=>zDf ⟨t.t.toArray⟩ w (by show t.t.length<=_;have:=(hok t (by simp)).1;omega)
 rw [hb] at RD1;have bd:=zKh ⟨t.t.toArray⟩;have NU:=λw=>zDH (Wnum.oN (Wnum.rdO ⟨t.t.toArray⟩)) (Wnum.oD (Wnum.rdO ⟨t.t.toArray⟩)) w bd.1.1 bd.1.2 bd.2.1 bd.2.2
 generalize Wnum.oN (Wnum.rdO ⟨t.t.toArray⟩)=rn at *;generalize Wnum.oD (Wnum.rdO ⟨t.t.toArray⟩)=rd at *;have LF:=λw=>zB0 (zII rn rd) w
 generalize zII rn rd=vn at *;clear bd hk hb;generalize (⟨t.t.toArray⟩:ByteArray)=tt at *;generalize t.p=tp at *;clear hres h hnl;go_enter func120,ntmps120;go_upto_region 3 with fail
 go_quiet (fail)
 have hb9:Below w.heap.size w (w.drewN nq):=zAH (Below.refl _ _) nq;have e0:=zAD hb9 c0;have e1:=zAD hb9 c1;have q0:=zAD hb9 t0;have q1:=zAD hb9 t1;have q2:=zAD hb9 t2;generalize w.drewN nq=W9 at *;clear c0 c1 c3 t0 t1 t2;have hbz:Below W9.heap.size W9 (W9.alloc (.cells #[.int .i64 0,.string ⟨#[]⟩,.int .i64 0] 107)):=zAI (Below.refl _ _) _;have y0:=zAD hbz e0;have y1:=zAD hbz e1;have y2:=zAD hbz q0;have y3:=zAD hbz q1;have y4:=zAD hbz q2;clear hbz;go_wp2_with fail
 go_region
 have hbA:Below w.heap.size w (W9.alloc (.cells #[.int .i64 1,.string tt,.int .i64 tp] 107)).drew:=(zAI hb9 _).drew;have pT:AtL (W9.alloc (.cells #[.int .i64 1,.string tt,.int .i64 tp] 107)).drew W9.heap.size [.int .i64 1,.string tt,.int .i64 tp]:=AtL.drew (AtL.new0 _ _ _);have hR:=HH.out.below hbA;have hG:w.grownBy (W9.alloc (.cells #[.int .i64 1,.string tt,.int .i64 tp] 107)).drew (some kp):=zAC hbA _;have hkt:w.heap.size<=W9.heap.size:=hb9.size;clear y0 y1 y2 y3 y4 e0 e1 q0 q1 q2 hb9 HH;go_upto_region 6 with fail
 generalize (W9.alloc (.cells #[.int .i64 1,.string tt,.int .i64 tp] 107)).drew=W at *;obtain ⟨kt,hkte⟩:∃ kt,W9.heap.size=kt:=⟨_,rfl⟩
 rw [hkte] at pT hkt ⊢;clear hkte;have x0:=pT.2.1 0 _ rfl;have x1:=pT.2.1 1 _ rfl;have hsW:=hG.size;go_wp2_with fail
 refine (RD1 _).mono ?_;rintro e w2 ⟨rfl,hb2⟩;have hR2:=(hR.below hb2).below (zAI (Below.refl _ _) (.cells #[.int .i64 rn,.int .i64 rd] 24));have hG2:w.grownBy (w2.alloc (.cells #[.int .i64 rn,.int .i64 rd] 24)) (some kp):=zAB hG (zAC (zAI hb2 _) _);have pM:AtL (w2.alloc (.cells #[.int .i64 rn,.int .i64 rd] 24)) w2.heap.size [.int .i64 rn,.int .i64 rd]:=AtL.new0 _ _ _;have hz2:=hb2.size;clear hR hG hb2 x0 x1 pT;go_upto_region 9 with fail
 generalize w2.alloc (.cells #[.int .i64 rn,.int .i64 rd] 24)=W2 at *;obtain ⟨kn,hkn⟩:∃ kn,w2.heap.size=kn:=⟨_,rfl⟩
 rw [hkn] at pM ⊢;have F:=zAx tn lo kp en 50 W2 _ hR2;have hG:=hG2;clear hG2 pM;go_wp2_with fail
 refine F.mono ?_;rintro e w2 ⟨rfl,hR2,hg2⟩;go_wp2;go_ret;rw [HRES.out];exact ⟨zAB hG hg2,by decide,_,[],_,rfl,World.ownsRow_nil _ _ _ _,by simp,hR2⟩
theorem zK4 (tn lo kp:Nat) (en:Int) (w:World) (t:Wlx.TV) (r:List Wlx.TV) (hok:∀ x ∈ t::r,zAP x) (h:RS tn lo kp en w (t::r) 0 0) (hk:t.k=2) (hb:t.t.length<=256) (RES:PR) (hres:RES=.inl ([zAk (zCg ⟨t.t.toArray⟩)],r)) :
  Calls prog 120 #[.pointer (some ⟨kp,0,none⟩)] w λe w'=>QPost tn lo kp en (t::r).length RES w e w':=by
 obtain ⟨hkl,hlo,h1024⟩:=h.lo;have hkw:kp<w.heap.size:=by omega
 have HRES:Hid (RES=.inl ([zAk (zCg ⟨t.t.toArray⟩)],r)):=hres;obtain ⟨g,len,cap,a,c0,c1,c3,hal,ha,t0,t1,t2⟩:=zAn h;have hge:decide (len<=a)=false:=by simp;omega
 have hge2:¬ len<=a:=by omega
 have HH:Hid (RS tn lo kp en w (t::r) 0 0):=h;obtain ⟨nl,hnl⟩:∃ nl,(t::r).length=nl:=⟨_,rfl⟩
 rw [hnl];rw [hk] at t0;have TX:=λw=>zEU ⟨t.t.toArray⟩ w (by show t.t.length<=_;have:=(hok t (by simp)).1;omega)
 have LF:=λw=>zB0 (zCg ⟨t.t.toArray⟩) w
 have hsz:((⟨t.t.toArray⟩:ByteArray).size:Int)=(t.t.length:Int):=rfl;generalize zCg ⟨t.t.toArray⟩=vn at *;generalize (⟨t.t.toArray⟩:ByteArray)=tt at *;have hgt:¬ (256:Int)<(tt.size:Int):=by omega
 clear hk hb hsz;generalize t.p=tp at *;clear hres h hnl;go_enter func120,ntmps120;go_upto_region 3 with fail
 go_quiet (fail)
 have hb9:Below w.heap.size w (w.drewN nq):=zAH (Below.refl _ _) nq;have e0:=zAD hb9 c0;have e1:=zAD hb9 c1;have q0:=zAD hb9 t0;have q1:=zAD hb9 t1;have q2:=zAD hb9 t2;generalize w.drewN nq=W9 at *;clear c0 c1 c3 t0 t1 t2;have hbz:Below W9.heap.size W9 (W9.alloc (.cells #[.int .i64 0,.string ⟨#[]⟩,.int .i64 0] 107)):=zAI (Below.refl _ _) _;have y0:=zAD hbz e0;have y1:=zAD hbz e1;have y2:=zAD hbz q0;have y3:=zAD hbz q1;have y4:=zAD hbz q2;clear hbz;go_wp2_with fail
 go_region
 have hbA:Below w.heap.size w (W9.alloc (.cells #[.int .i64 2,.string tt,.int .i64 tp] 107)).drew:=(zAI hb9 _).drew;have pT:AtL (W9.alloc (.cells #[.int .i64 2,.string tt,.int .i64 tp] 107)).drew W9.heap.size [.int .i64 2,.string tt,.int .i64 tp]:=AtL.drew (AtL.new0 _ _ _);have hR:=HH.out.below hbA;have hG:w.grownBy (W9.alloc (.cells #[.int .i64 2,.string tt,.int .i64 tp] 107)).drew (some kp):=zAC hbA _;have hkt:w.heap.size<=W9.heap.size:=hb9.size;clear y0 y1 y2 y3 y4 e0 e1 q0 q1 q2 hb9 HH;go_upto_region 6 with fail
 generalize (W9.alloc (.cells #[.int .i64 2,.string tt,.int .i64 tp] 107)).drew=W at *;obtain ⟨kt,hkte⟩:∃ kt,W9.heap.size=kt:=⟨_,rfl⟩
 rw [hkte] at pT hkt ⊢;clear hkte;have x0:=pT.2.1 0 _ rfl;have x1:=pT.2.1 1 _ rfl;have hsW:=hG.size;obtain ⟨a2,ha2,d1,z1,hR3,hG3⟩:=zAh hR;have x1':=(pT.far (j:=kp) (by omega) 1 (.int .i64 ((a2:Int)+1))).2.1 1 _ rfl;have HG3:Hid (w.grownBy (W.setCell ⟨kp,1,none⟩ (.int .i64 ((a2:Int)+1))) (some kp)):=zAB hG hG3;clear hR hG hG3 pT;go_upto_region 17 with fail
 clear d1 z1 x0 x1;generalize W.setCell ⟨kp,1,none⟩ (.int .i64 ((a2:Int)+1))=W3 at *;have hs3:=HG3.out.size;go_wp2_with fail
 refine (TX _).mono ?_;rintro e w4 ⟨rfl,hb4⟩;clear x1';go_wp2_with fail
 refine (LF _).mono ?_;rintro e w5 ⟨u,rfl,own,hb5⟩;have hB5:=zAA hb4 hb5;have hz4:=hb4.size;go_wp2;go_ret;rw [HRES.out];exact ⟨zAB HG3.out (zAC hB5 _),u,rfl,zBf own (by omega),hR3.below hB5⟩
theorem zKu (tn lo kp:Nat) (en:Int) (w:World) (t:Wlx.TV) (r:List Wlx.TV) (hok:∀ x ∈ t::r,zAP x) (h:RS tn lo kp en w (t::r) 0 0) (hk:t.k=2) (hb:¬ t.t.length<=256) (RES:PR) (hres:RES=.inr (50,pos (t::r) en)) :
  Calls prog 120 #[.pointer (some ⟨kp,0,none⟩)] w λe w'=>QPost tn lo kp en (t::r).length RES w e w':=by
 obtain ⟨hkl,hlo,h1024⟩:=h.lo;have hkw:kp<w.heap.size:=by omega
 have HRES:Hid (RES=.inr (50,pos (t::r) en)):=hres;obtain ⟨g,len,cap,a,c0,c1,c3,hal,ha,t0,t1,t2⟩:=zAn h;have hge:decide (len<=a)=false:=by simp;omega
 have hge2:¬ len<=a:=by omega
 have HH:Hid (RS tn lo kp en w (t::r) 0 0):=h;obtain ⟨nl,hnl⟩:∃ nl,(t::r).length=nl:=⟨_,rfl⟩
 rw [hnl];rw [hk] at t0;have TX:=λw=>zEU ⟨t.t.toArray⟩ w (by show t.t.length<=_;have:=(hok t (by simp)).1;omega)
 have LF:=λw=>zB0 (zCg ⟨t.t.toArray⟩) w
 have hsz:((⟨t.t.toArray⟩:ByteArray).size:Int)=(t.t.length:Int):=rfl;generalize zCg ⟨t.t.toArray⟩=vn at *;generalize (⟨t.t.toArray⟩:ByteArray)=tt at *;have hgt:(256:Int)<(tt.size:Int):=by omega
 clear hk hb hsz;generalize t.p=tp at *;clear hres h hnl;go_enter func120,ntmps120;go_upto_region 3 with fail
 go_quiet (fail)
 have hb9:Below w.heap.size w (w.drewN nq):=zAH (Below.refl _ _) nq;have e0:=zAD hb9 c0;have e1:=zAD hb9 c1;have q0:=zAD hb9 t0;have q1:=zAD hb9 t1;have q2:=zAD hb9 t2;generalize w.drewN nq=W9 at *;clear c0 c1 c3 t0 t1 t2;have hbz:Below W9.heap.size W9 (W9.alloc (.cells #[.int .i64 0,.string ⟨#[]⟩,.int .i64 0] 107)):=zAI (Below.refl _ _) _;have y0:=zAD hbz e0;have y1:=zAD hbz e1;have y2:=zAD hbz q0;have y3:=zAD hbz q1;have y4:=zAD hbz q2;clear hbz;go_wp2_with fail
 go_region
 have hbA:Below w.heap.size w (W9.alloc (.cells #[.int .i64 2,.string tt,.int .i64 tp] 107)).drew:=(zAI hb9 _).drew;have pT:AtL (W9.alloc (.cells #[.int .i64 2,.string tt,.int .i64 tp] 107)).drew W9.heap.size [.int .i64 2,.string tt,.int .i64 tp]:=AtL.drew (AtL.new0 _ _ _);have hR:=HH.out.below hbA;have hG:w.grownBy (W9.alloc (.cells #[.int .i64 2,.string tt,.int .i64 tp] 107)).drew (some kp):=zAC hbA _;have hkt:w.heap.size<=W9.heap.size:=hb9.size;clear y0 y1 y2 y3 y4 e0 e1 q0 q1 q2 hb9 HH;go_upto_region 6 with fail
 generalize (W9.alloc (.cells #[.int .i64 2,.string tt,.int .i64 tp] 107)).drew=W at *;obtain ⟨kt,hkte⟩:∃ kt,W9.heap.size=kt:=⟨_,rfl⟩
 rw [hkte] at pT hkt ⊢;clear hkte;have x0:=pT.2.1 0 _ rfl;have x1:=pT.2.1 1 _ rfl;have hsW:=hG.size;have F:=zAx tn lo kp en 50 W _ hR;go_wp2_with fail
 refine F.mono ?_;rintro e w2 ⟨rfl,hR2,hg2⟩;go_wp2;go_ret;rw [HRES.out];exact ⟨zAB hG hg2,by decide,_,[],_,rfl,World.ownsRow_nil _ _ _ _,by simp,hR2⟩
theorem zM8 (tn lo kp:Nat) (en:Int) (w:World) (t:Wlx.TV) (r:List Wlx.TV) (hok:∀ x ∈ t::r,zAP x) (h:RS tn lo kp en w (t::r) 0 0) (hk:t.k=4) (RES:PR) (hres:RES=.inl ([zAk ⟨4,0,0,⟨#[]⟩,false,(fi t.t 0 fNames:Nat)⟩],r)) :
  Calls prog 120 #[.pointer (some ⟨kp,0,none⟩)] w λe w'=>QPost tn lo kp en (t::r).length RES w e w':=by
 obtain ⟨hkl,hlo,h1024⟩:=h.lo;have hkw:kp<w.heap.size:=by omega
 have HRES:Hid (RES=.inl ([zAk ⟨4,0,0,⟨#[]⟩,false,(fi t.t 0 fNames:Nat)⟩],r)):=hres;obtain ⟨g,len,cap,a,c0,c1,c3,hal,ha,t0,t1,t2⟩:=zAn h;have hge:decide (len<=a)=false:=by simp;omega
 have hge2:¬ len<=a:=by omega
 have HH:Hid (RS tn lo kp en w (t::r) 0 0):=h;obtain ⟨nl,hnl⟩:∃ nl,(t::r).length=nl:=⟨_,rfl⟩
 rw [hnl];rw [hk] at t0;have TX:∀ w:World,CR 102 #[.string ⟨t.t.toArray⟩] w (.agg (vl6 ⟨4,0,0,⟨#[]⟩,false,((fi t.t 0 fNames:Nat):Int)⟩).toArray):=by
  obtain ⟨i,hi,h1,e⟩:=(hok t (by simp)).2 hk;rw [e];exact λw=>zIU i hi h1 w
 have LF:=λw=>zB0 ⟨4,0,0,⟨#[]⟩,false,((fi t.t 0 fNames:Nat):Int)⟩ w
 generalize (⟨4,0,0,⟨#[]⟩,false,((fi t.t 0 fNames:Nat):Int)⟩:Wt.Vl)=vn at *;generalize (⟨t.t.toArray⟩:ByteArray)=tt at *;clear hk;generalize t.p=tp at *;clear hres h hnl;go_enter func120,ntmps120;go_upto_region 3 with fail
 go_quiet (fail)
 have hb9:Below w.heap.size w (w.drewN nq):=zAH (Below.refl _ _) nq;have e0:=zAD hb9 c0;have e1:=zAD hb9 c1;have q0:=zAD hb9 t0;have q1:=zAD hb9 t1;have q2:=zAD hb9 t2;generalize w.drewN nq=W9 at *;clear c0 c1 c3 t0 t1 t2;have hbz:Below W9.heap.size W9 (W9.alloc (.cells #[.int .i64 0,.string ⟨#[]⟩,.int .i64 0] 107)):=zAI (Below.refl _ _) _;have y0:=zAD hbz e0;have y1:=zAD hbz e1;have y2:=zAD hbz q0;have y3:=zAD hbz q1;have y4:=zAD hbz q2;clear hbz;go_wp2_with fail
 go_region
 have hbA:Below w.heap.size w (W9.alloc (.cells #[.int .i64 4,.string tt,.int .i64 tp] 107)).drew:=(zAI hb9 _).drew;have pT:AtL (W9.alloc (.cells #[.int .i64 4,.string tt,.int .i64 tp] 107)).drew W9.heap.size [.int .i64 4,.string tt,.int .i64 tp]:=AtL.drew (AtL.new0 _ _ _);have hR:=HH.out.below hbA;have hG:w.grownBy (W9.alloc (.cells #[.int .i64 4,.string tt,.int .i64 tp] 107)).drew (some kp):=zAC hbA _;have hkt:w.heap.size<=W9.heap.size:=hb9.size;clear y0 y1 y2 y3 y4 e0 e1 q0 q1 q2 hb9 HH;go_upto_region 6 with fail
 generalize (W9.alloc (.cells #[.int .i64 4,.string tt,.int .i64 tp] 107)).drew=W at *;obtain ⟨kt,hkte⟩:∃ kt,W9.heap.size=kt:=⟨_,rfl⟩
 rw [hkte] at pT hkt ⊢;clear hkte;have x0:=pT.2.1 0 _ rfl;have x1:=pT.2.1 1 _ rfl;have hsW:=hG.size;obtain ⟨a2,ha2,d1,z1,hR3,hG3⟩:=zAh hR;have x1':=(pT.far (j:=kp) (by omega) 1 (.int .i64 ((a2:Int)+1))).2.1 1 _ rfl;have HG3:Hid (w.grownBy (W.setCell ⟨kp,1,none⟩ (.int .i64 ((a2:Int)+1))) (some kp)):=zAB hG hG3;clear hR hG hG3 pT;go_upto_region 20 with fail
 clear d1 z1 x0 x1;generalize W.setCell ⟨kp,1,none⟩ (.int .i64 ((a2:Int)+1))=W3 at *;have hs3:=HG3.out.size;go_wp2_with fail
 refine (TX _).mono ?_;rintro e w4 ⟨rfl,hb4⟩;clear x1';go_wp2_with fail
 refine (LF _).mono ?_;rintro e w5 ⟨u,rfl,own,hb5⟩;have hB5:=zAA hb4 hb5;have hz4:=hb4.size;go_wp2;go_ret;rw [HRES.out];exact ⟨zAB HG3.out (zAC hB5 _),u,rfl,zBf own (by omega),hR3.below hB5⟩
theorem zHY (tn lo kp:Nat) (en:Int) (w:World) (t:Wlx.TV) (r:List Wlx.TV) (hok:∀ x ∈ t::r,zAP x) (h:RS tn lo kp en w (t::r) 0 0) (h1:¬ t.k=1) (h2:¬ t.k=2) (h3:¬ t.k=3) (h4:¬ t.k=4) (hm:mkk (t::r) 0 [40]=false) (RES:PR) (hres:RES=.inr (50,pos (t::r) en)) :
  Calls prog 120 #[.pointer (some ⟨kp,0,none⟩)] w λe w'=>QPost tn lo kp en (t::r).length RES w e w':=by
 obtain ⟨hkl,hlo,h1024⟩:=h.lo;have hkw:kp<w.heap.size:=by omega
 have HRES:Hid (RES=.inr (50,pos (t::r) en)):=hres;obtain ⟨g,len,cap,a,c0,c1,c3,hal,ha,t0,t1,t2⟩:=zAn h;have hge:decide (len<=a)=false:=by simp;omega
 have hge2:¬ len<=a:=by omega
 have HH:Hid (RS tn lo kp en w (t::r) 0 0):=h;obtain ⟨nl,hnl⟩:∃ nl,(t::r).length=nl:=⟨_,rfl⟩
 rw [hnl];have g1:(t.k == 1)=false:=by simpa using h1
 have g2:(t.k == 2)=false:=by simpa using h2
 have g3:(t.k == 3)=false:=by simpa using h3
 have g4:(t.k == 4)=false:=by simpa using h4
 have MM:∀ w:World,RS tn lo kp en w (t::r) 0 0->Calls prog 96 #[.pointer (some ⟨kp,0,none⟩),.int .i64 0,.string ⟨#[40]⟩] w λe w'=>e=.returned (.bool false)/\w=w':=λw h=>by
  have:=zAL tn lo kp en w _ 0 0 0 (by omega) [40] h;rw [hm] at this;exact this
 generalize t.k=tk at *;generalize (⟨t.t.toArray⟩:ByteArray)=tt at *;clear h1 h2 h3 h4 hm;generalize t.p=tp at *;clear hres h hnl;go_enter func120,ntmps120;go_upto_region 3 with fail
 go_quiet (fail)
 have hb9:Below w.heap.size w (w.drewN nq):=zAH (Below.refl _ _) nq;have e0:=zAD hb9 c0;have e1:=zAD hb9 c1;have q0:=zAD hb9 t0;have q1:=zAD hb9 t1;have q2:=zAD hb9 t2;generalize w.drewN nq=W9 at *;clear c0 c1 c3 t0 t1 t2;have hbz:Below W9.heap.size W9 (W9.alloc (.cells #[.int .i64 0,.string ⟨#[]⟩,.int .i64 0] 107)):=zAI (Below.refl _ _) _;have y0:=zAD hbz e0;have y1:=zAD hbz e1;have y2:=zAD hbz q0;have y3:=zAD hbz q1;have y4:=zAD hbz q2;clear hbz;go_wp2_with fail
 go_region
 have hbA:Below w.heap.size w (W9.alloc (.cells #[.int .i64 tk,.string tt,.int .i64 tp] 107)).drew:=(zAI hb9 _).drew;have pT:AtL (W9.alloc (.cells #[.int .i64 tk,.string tt,.int .i64 tp] 107)).drew W9.heap.size [.int .i64 tk,.string tt,.int .i64 tp]:=AtL.drew (AtL.new0 _ _ _);have hR:=HH.out.below hbA;have hG:w.grownBy (W9.alloc (.cells #[.int .i64 tk,.string tt,.int .i64 tp] 107)).drew (some kp):=zAC hbA _;have hkt:w.heap.size<=W9.heap.size:=hb9.size;clear y0 y1 y2 y3 y4 e0 e1 q0 q1 q2 hb9 HH;go_upto_region 6 with fail
 generalize (W9.alloc (.cells #[.int .i64 tk,.string tt,.int .i64 tp] 107)).drew=W at *;obtain ⟨kt,hkte⟩:∃ kt,W9.heap.size=kt:=⟨_,rfl⟩
 rw [hkte] at pT hkt ⊢;clear hkte;have x0:=pT.2.1 0 _ rfl;have x1:=pT.2.1 1 _ rfl;have hsW:=hG.size;have F:=zAx tn lo kp en 50 W _ hR;have M:=MM W hR;go_wp2_with fail
 refine M.mono ?_;rintro e w1 ⟨rfl,rfl⟩;go_wp2_with fail
 refine F.mono ?_;rintro e w2 ⟨rfl,hR2,hg2⟩;go_wp2;go_ret;rw [HRES.out];exact ⟨zAB hG hg2,by decide,_,[],_,rfl,World.ownsRow_nil _ _ _ _,by simp,hR2⟩
theorem zJX (tn lo kp:Nat) (en:Int) (w:World) (t:Wlx.TV) (r:List Wlx.TV) (hok:∀ x ∈ t::r,zAP x) (h:RS tn lo kp en w (t::r) 0 0) (h5:t.k=5) (hm:mkk (t::r) 0 [40]=true) (sub:List Wlx.TV->PR) (n:Nat) (hn:r.length<=n) (HL:QLv tn lo kp en 0 sub n) (c:Int) (p:Int) (hs:sub r=.inr (c,p)) (RES:PR) (hres:RES=.inr (c,p)) :
  Calls prog 120 #[.pointer (some ⟨kp,0,none⟩)] w λe w'=>QPost tn lo kp en (t::r).length RES w e w':=by
 obtain ⟨hkl,hlo,h1024⟩:=h.lo;have hkw:kp<w.heap.size:=by omega
 have HRES:Hid (RES=.inr (c,p)):=hres;obtain ⟨g,len,cap,a,c0,c1,c3,hal,ha,t0,t1,t2⟩:=zAn h;have hge:decide (len<=a)=false:=by simp;omega
 have hge2:¬ len<=a:=by omega
 have HH:Hid (RS tn lo kp en w (t::r) 0 0):=h;obtain ⟨nl,hnl⟩:∃ nl,(t::r).length=nl:=⟨_,rfl⟩
 rw [hnl];rw [h5] at t0;have MM:∀ w:World,RS tn lo kp en w (t::r) 0 0->Calls prog 96 #[.pointer (some ⟨kp,0,none⟩),.int .i64 0,.string ⟨#[40]⟩] w λe w'=>e=.returned (.bool true)/\w=w':=λw h=>by
  have:=zAL tn lo kp en w _ 0 0 0 (by omega) [40] h;rw [hm] at this;exact this
 have SL:∀ (w:World),RS tn lo kp en w r 0 0->Calls prog 40 #[.pointer (some ⟨kp,0,none⟩),.int .i64 0] w λe w'=>QPost tn lo kp en r.length (sub r) w e w':=λw hR=>HL r w hn (λx hx=>hok x (List.mem_cons_of_mem _ hx)) hR
 rw [hs] at SL;have hnl2:r.length<=nl:=by rw [<-hnl];simp
 generalize (⟨t.t.toArray⟩:ByteArray)=tt at *;clear h5 hm HL hs;generalize t.p=tp at *;clear hres h hnl;go_enter func120,ntmps120;go_upto_region 3 with fail
 go_quiet (fail)
 have hb9:Below w.heap.size w (w.drewN nq):=zAH (Below.refl _ _) nq;have e0:=zAD hb9 c0;have e1:=zAD hb9 c1;have q0:=zAD hb9 t0;have q1:=zAD hb9 t1;have q2:=zAD hb9 t2;generalize w.drewN nq=W9 at *;clear c0 c1 c3 t0 t1 t2;have hbz:Below W9.heap.size W9 (W9.alloc (.cells #[.int .i64 0,.string ⟨#[]⟩,.int .i64 0] 107)):=zAI (Below.refl _ _) _;have y0:=zAD hbz e0;have y1:=zAD hbz e1;have y2:=zAD hbz q0;have y3:=zAD hbz q1;have y4:=zAD hbz q2;clear hbz;go_wp2_with fail
 go_region
 have hbA:Below w.heap.size w (W9.alloc (.cells #[.int .i64 5,.string tt,.int .i64 tp] 107)).drew:=(zAI hb9 _).drew;have pT:AtL (W9.alloc (.cells #[.int .i64 5,.string tt,.int .i64 tp] 107)).drew W9.heap.size [.int .i64 5,.string tt,.int .i64 tp]:=AtL.drew (AtL.new0 _ _ _);have hR:=HH.out.below hbA;have hG:w.grownBy (W9.alloc (.cells #[.int .i64 5,.string tt,.int .i64 tp] 107)).drew (some kp):=zAC hbA _;have hkt:w.heap.size<=W9.heap.size:=hb9.size;clear y0 y1 y2 y3 y4 e0 e1 q0 q1 q2 hb9 HH;go_upto_region 6 with fail
 generalize (W9.alloc (.cells #[.int .i64 5,.string tt,.int .i64 tp] 107)).drew=W at *;obtain ⟨kt,hkte⟩:∃ kt,W9.heap.size=kt:=⟨_,rfl⟩
 rw [hkte] at pT hkt ⊢;clear hkte;have x0:=pT.2.1 0 _ rfl;have x1:=pT.2.1 1 _ rfl;have hsW:=hG.size;have M:=MM W hR;obtain ⟨a2,ha2,d1,z1,hR3,hG3⟩:=zAh hR;have HG3:Hid (w.grownBy (W.setCell ⟨kp,1,none⟩ (.int .i64 ((a2:Int)+1))) (some kp)):=zAB hG hG3;clear hR hG hG3 pT;go_wp2_with fail
 refine M.mono ?_;rintro e w1 ⟨rfl,rfl⟩;clear M MM;go_upto_region 26 with fail
 clear d1 z1 x0 x1;generalize W.setCell ⟨kp,1,none⟩ (.int .i64 ((a2:Int)+1))=W3 at *;have S:=SL W3 hR3;have hs3:=HG3.out.size;go_wp2_with fail
 refine S.mono ?_;rintro e w2 ⟨hg2,hc,vb,row,ts2,rfl,ownb,hrw,hRb⟩;have hG2:w.grownBy w2 (some kp):=zAB HG3.out hg2;have ME:=zAL tn lo kp en w2 _ c p 0 (by omega) [41] hRb;have F:=zKB tn lo kp en 50 c p hc w2 _ hRb;have hcd:decide (c=0)=false:=by simpa using hc
 rw [hcd,Bool.false_and] at ME;clear S SL hcd;go_wp2_with fail
 refine ME.mono ?_;rintro e w5 ⟨rfl,rfl⟩;go_wp2_with fail
 refine F.mono ?_;rintro e w5 ⟨rfl,rfl⟩;go_wp2;go_ret;rw [HRES.out];exact ⟨hG2,hc,_,[],ts2,rfl,World.ownsRow_nil _ _ _ _,by simp,hRb⟩
theorem zKF (tn lo kp:Nat) (en:Int) (w:World) (t:Wlx.TV) (r:List Wlx.TV) (hok:∀ x ∈ t::r,zAP x) (h:RS tn lo kp en w (t::r) 0 0) (h5:t.k=5) (hm:mkk (t::r) 0 [40]=true) (sub:List Wlx.TV->PR) (n:Nat) (hn:r.length<=n) (HL:QLv tn lo kp en 0 sub n) (row:List Wt.Nd) (t6:Wlx.TV) (r2:List Wlx.TV) (hs:sub r=.inl (row,t6::r2)) (hm6:mkk (t6::r2) 0 [41]=true) (RES:PR) (hres:RES=.inl (row,r2)) :
  Calls prog 120 #[.pointer (some ⟨kp,0,none⟩)] w λe w'=>QPost tn lo kp en (t::r).length RES w e w':=by
 obtain ⟨hkl,hlo,h1024⟩:=h.lo;have hkw:kp<w.heap.size:=by omega
 have HRES:Hid (RES=.inl (row,r2)):=hres;obtain ⟨g,len,cap,a,c0,c1,c3,hal,ha,t0,t1,t2⟩:=zAn h;have hge:decide (len<=a)=false:=by simp;omega
 have hge2:¬ len<=a:=by omega
 have HH:Hid (RS tn lo kp en w (t::r) 0 0):=h;obtain ⟨nl,hnl⟩:∃ nl,(t::r).length=nl:=⟨_,rfl⟩
 rw [hnl];rw [h5] at t0;have MM:∀ w:World,RS tn lo kp en w (t::r) 0 0->Calls prog 96 #[.pointer (some ⟨kp,0,none⟩),.int .i64 0,.string ⟨#[40]⟩] w λe w'=>e=.returned (.bool true)/\w=w':=λw h=>by
  have:=zAL tn lo kp en w _ 0 0 0 (by omega) [40] h;rw [hm] at this;exact this
 have SL:∀ (w:World),RS tn lo kp en w r 0 0->Calls prog 40 #[.pointer (some ⟨kp,0,none⟩),.int .i64 0] w λe w'=>QPost tn lo kp en r.length (sub r) w e w':=λw hR=>HL r w hn (λx hx=>hok x (List.mem_cons_of_mem _ hx)) hR
 rw [hs] at SL;have hnl2:r.length<=nl:=by rw [<-hnl];simp
 generalize (⟨t.t.toArray⟩:ByteArray)=tt at *;clear h5 hm HL hs;generalize t.p=tp at *;clear hres h hnl;go_enter func120,ntmps120;go_upto_region 3 with fail
 go_quiet (fail)
 have hb9:Below w.heap.size w (w.drewN nq):=zAH (Below.refl _ _) nq;have e0:=zAD hb9 c0;have e1:=zAD hb9 c1;have q0:=zAD hb9 t0;have q1:=zAD hb9 t1;have q2:=zAD hb9 t2;generalize w.drewN nq=W9 at *;clear c0 c1 c3 t0 t1 t2;have hbz:Below W9.heap.size W9 (W9.alloc (.cells #[.int .i64 0,.string ⟨#[]⟩,.int .i64 0] 107)):=zAI (Below.refl _ _) _;have y0:=zAD hbz e0;have y1:=zAD hbz e1;have y2:=zAD hbz q0;have y3:=zAD hbz q1;have y4:=zAD hbz q2;clear hbz;go_wp2_with fail
 go_region
 have hbA:Below w.heap.size w (W9.alloc (.cells #[.int .i64 5,.string tt,.int .i64 tp] 107)).drew:=(zAI hb9 _).drew;have pT:AtL (W9.alloc (.cells #[.int .i64 5,.string tt,.int .i64 tp] 107)).drew W9.heap.size [.int .i64 5,.string tt,.int .i64 tp]:=AtL.drew (AtL.new0 _ _ _);have hR:=HH.out.below hbA;have hG:w.grownBy (W9.alloc (.cells #[.int .i64 5,.string tt,.int .i64 tp] 107)).drew (some kp):=zAC hbA _;have hkt:w.heap.size<=W9.heap.size:=hb9.size;clear y0 y1 y2 y3 y4 e0 e1 q0 q1 q2 hb9 HH;go_upto_region 6 with fail
 generalize (W9.alloc (.cells #[.int .i64 5,.string tt,.int .i64 tp] 107)).drew=W at *;obtain ⟨kt,hkte⟩:∃ kt,W9.heap.size=kt:=⟨_,rfl⟩
 rw [hkte] at pT hkt ⊢;clear hkte;have x0:=pT.2.1 0 _ rfl;have x1:=pT.2.1 1 _ rfl;have hsW:=hG.size;have M:=MM W hR;obtain ⟨a2,ha2,d1,z1,hR3,hG3⟩:=zAh hR;have HG3:Hid (w.grownBy (W.setCell ⟨kp,1,none⟩ (.int .i64 ((a2:Int)+1))) (some kp)):=zAB hG hG3;clear hR hG hG3 pT;go_wp2_with fail
 refine M.mono ?_;rintro e w1 ⟨rfl,rfl⟩;clear M MM;go_upto_region 26 with fail
 clear d1 z1 x0 x1;generalize W.setCell ⟨kp,1,none⟩ (.int .i64 ((a2:Int)+1))=W3 at *;have S:=SL W3 hR3;have hs3:=HG3.out.size;go_wp2_with fail
 refine S.mono ?_;rintro e w2 ⟨hg2,vb,rfl,ownb,hRb⟩;have hG2:w.grownBy w2 (some kp):=zAB HG3.out hg2;have ME:=zAL tn lo kp en w2 _ 0 0 0 (by omega) [41] hRb;rw [hm6] at ME;clear S SL;obtain ⟨a6,ha6,d6,z6,hR6,hG6⟩:=zAh hRb;have HG6:Hid (w.grownBy (w2.setCell ⟨kp,1,none⟩ (.int .i64 ((a6:Int)+1))) (some kp)):=zAB hG2 hG6;have HO6:Hid (OwnN (w2.setCell ⟨kp,1,none⟩ (.int .i64 ((a6:Int)+1))) W3.heap.size vb row):=zAb ownb hG6 (by omega);have HR6:Hid (RS tn lo kp en (w2.setCell ⟨kp,1,none⟩ (.int .i64 ((a6:Int)+1))) r2 0 0):=hR6;clear hR6 hG6 hRb ownb hG2;go_wp2_with fail
 refine ME.mono ?_;rintro e w5 ⟨rfl,rfl⟩;go_wp2;go_ret;rw [HRES.out];exact ⟨HG6.out,vb,rfl,zBf HO6.out hs3,HR6.out⟩
theorem zKe (tn lo kp:Nat) (en:Int) (w:World) (t:Wlx.TV) (r:List Wlx.TV) (hok:∀ x ∈ t::r,zAP x) (h:RS tn lo kp en w (t::r) 0 0) (h5:t.k=5) (hm:mkk (t::r) 0 [40]=true) (sub:List Wlx.TV->PR) (n:Nat) (hn:r.length<=n) (HL:QLv tn lo kp en 0 sub n) (row:List Wt.Nd) (r2:List Wlx.TV) (hs:sub r=.inl (row,r2)) (hm6:mkk r2 0 [41]=false) (RES:PR) (hres:RES=.inr (50,pos r2 en)) :
  Calls prog 120 #[.pointer (some ⟨kp,0,none⟩)] w λe w'=>QPost tn lo kp en (t::r).length RES w e w':=by
 obtain ⟨hkl,hlo,h1024⟩:=h.lo;have hkw:kp<w.heap.size:=by omega
 have HRES:Hid (RES=.inr (50,pos r2 en)):=hres;obtain ⟨g,len,cap,a,c0,c1,c3,hal,ha,t0,t1,t2⟩:=zAn h;have hge:decide (len<=a)=false:=by simp;omega
 have hge2:¬ len<=a:=by omega
 have HH:Hid (RS tn lo kp en w (t::r) 0 0):=h;obtain ⟨nl,hnl⟩:∃ nl,(t::r).length=nl:=⟨_,rfl⟩
 rw [hnl];rw [h5] at t0;have MM:∀ w:World,RS tn lo kp en w (t::r) 0 0->Calls prog 96 #[.pointer (some ⟨kp,0,none⟩),.int .i64 0,.string ⟨#[40]⟩] w λe w'=>e=.returned (.bool true)/\w=w':=λw h=>by
  have:=zAL tn lo kp en w _ 0 0 0 (by omega) [40] h;rw [hm] at this;exact this
 have SL:∀ (w:World),RS tn lo kp en w r 0 0->Calls prog 40 #[.pointer (some ⟨kp,0,none⟩),.int .i64 0] w λe w'=>QPost tn lo kp en r.length (sub r) w e w':=λw hR=>HL r w hn (λx hx=>hok x (List.mem_cons_of_mem _ hx)) hR
 rw [hs] at SL;have hnl2:r.length<=nl:=by rw [<-hnl];simp
 generalize (⟨t.t.toArray⟩:ByteArray)=tt at *;clear h5 hm HL hs;generalize t.p=tp at *;clear hres h hnl;go_enter func120,ntmps120;go_upto_region 3 with fail
 go_quiet (fail)
 have hb9:Below w.heap.size w (w.drewN nq):=zAH (Below.refl _ _) nq;have e0:=zAD hb9 c0;have e1:=zAD hb9 c1;have q0:=zAD hb9 t0;have q1:=zAD hb9 t1;have q2:=zAD hb9 t2;generalize w.drewN nq=W9 at *;clear c0 c1 c3 t0 t1 t2;have hbz:Below W9.heap.size W9 (W9.alloc (.cells #[.int .i64 0,.string ⟨#[]⟩,.int .i64 0] 107)):=zAI (Below.refl _ _) _;have y0:=zAD hbz e0;have y1:=zAD hbz e1;have y2:=zAD hbz q0;have y3:=zAD hbz q1;have y4:=zAD hbz q2;clear hbz;go_wp2_with fail
 go_region
 have hbA:Below w.heap.size w (W9.alloc (.cells #[.int .i64 5,.string tt,.int .i64 tp] 107)).drew:=(zAI hb9 _).drew;have pT:AtL (W9.alloc (.cells #[.int .i64 5,.string tt,.int .i64 tp] 107)).drew W9.heap.size [.int .i64 5,.string tt,.int .i64 tp]:=AtL.drew (AtL.new0 _ _ _);have hR:=HH.out.below hbA;have hG:w.grownBy (W9.alloc (.cells #[.int .i64 5,.string tt,.int .i64 tp] 107)).drew (some kp):=zAC hbA _;have hkt:w.heap.size<=W9.heap.size:=hb9.size;clear y0 y1 y2 y3 y4 e0 e1 q0 q1 q2 hb9 HH;go_upto_region 6 with fail
 generalize (W9.alloc (.cells #[.int .i64 5,.string tt,.int .i64 tp] 107)).drew=W at *;obtain ⟨kt,hkte⟩:∃ kt,W9.heap.size=kt:=⟨_,rfl⟩
 rw [hkte] at pT hkt ⊢;clear hkte;have x0:=pT.2.1 0 _ rfl;have x1:=pT.2.1 1 _ rfl;have hsW:=hG.size;have M:=MM W hR;obtain ⟨a2,ha2,d1,z1,hR3,hG3⟩:=zAh hR;have HG3:Hid (w.grownBy (W.setCell ⟨kp,1,none⟩ (.int .i64 ((a2:Int)+1))) (some kp)):=zAB hG hG3;clear hR hG hG3 pT;go_wp2_with fail
 refine M.mono ?_;rintro e w1 ⟨rfl,rfl⟩;clear M MM;go_upto_region 26 with fail
 clear d1 z1 x0 x1;generalize W.setCell ⟨kp,1,none⟩ (.int .i64 ((a2:Int)+1))=W3 at *;have S:=SL W3 hR3;have hs3:=HG3.out.size;go_wp2_with fail
 refine S.mono ?_;rintro e w2 ⟨hg2,vb,rfl,ownb,hRb⟩;have hG2:w.grownBy w2 (some kp):=zAB HG3.out hg2;have ME:=zAL tn lo kp en w2 _ 0 0 0 (by omega) [41] hRb;rw [hm6] at ME;clear S SL;have F:=zAx tn lo kp en 50 w2 _ hRb;have hG:=hG2;go_wp2_with fail
 refine ME.mono ?_;rintro e w5 ⟨rfl,rfl⟩;go_wp2_with fail
 refine F.mono ?_;rintro e w6 ⟨rfl,hR2,hg2⟩;go_wp2;go_ret;rw [HRES.out];exact ⟨zAB hG hg2,by decide,_,[],_,rfl,World.ownsRow_nil _ _ _ _,by simp,hR2⟩
theorem zH2 (tn lo kp:Nat) (en:Int) (w:World) (h:RS tn lo kp en w [] 0 0):Calls prog 120 #[.pointer (some ⟨kp,0,none⟩)] w λe w'=>QPost tn lo kp en 0 (.inr (50,pos [] en)) w e w':=by
 obtain ⟨hkl,hlo,h1024⟩:=h.lo;obtain ⟨av,len,cap,a,c0,c1,c3,hal⟩:=zJG h;have hge:decide (len<=a)=true:=by simp;omega
 have hge2:len<=a:=by omega
 have HH:Hid (RS tn lo kp en w [] 0 0):=h;clear h;go_enter func120,ntmps120;go_upto_region 3 with fail
 go_quiet (fail)
 have hb9:Below w.heap.size w (w.drewN nq):=zAH (Below.refl _ _) nq;have F:=zAx tn lo kp en 50 (w.drewN nq) _ (HH.out.below hb9);generalize w.drewN nq=W9 at *;go_wp2_with fail
 refine F.mono ?_;rintro e w2 ⟨rfl,hR2,hg2⟩;go_wp2;go_ret;exact ⟨zAB (zAC hb9 _) hg2,by decide,_,[],_,rfl,World.ownsRow_nil _ _ _ _,by simp,hR2⟩
end Go.Proofs.YtdghjlmnlodnlaaGreatDoor
