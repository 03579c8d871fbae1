/- TQLev, NPlainD, NPlainF, TQCellP. -/
import Derived.Test.YtlggnpohhahdlaaGreatDoorQ35
set_option maxHeartbeats 3200000
set_option maxRecDepth 100000
namespace Go.Proofs.YtlggnpohhahdlaaGreatDoor
open Go.RowKit Go.Shelf
set_option linter.unusedVariables false
theorem rs_open {tn lo kp:Nat} {en:Int} {w:World} {t:Wlx.TV} {r:List Wlx.TV} {E Bad:Int} (h:RS tn lo kp en w (t::r) E Bad):∃ (g len cap a:Nat),w.cell? ⟨kp,0,none⟩=some (.slice (some ⟨g,0,none⟩) len cap)∧w.cell? ⟨kp,1,none⟩=some (.int .i64 (a:Int))∧w.cell? ⟨kp,3,none⟩=some (.int .i64 E)∧(a:Int)<(len:Int)∧(a:Int)≤1024∧w.cell? ⟨g,a * 3,none⟩=some (.int .i64 t.k)∧w.cell? ⟨g,a * 3+1,none⟩=some (.string ⟨t.t.toArray⟩)∧w.cell? ⟨g,a * 3+2,none⟩=some (.int .i64 t.p):=by
 obtain ⟨av,cap,T,a,e,h2,h3,h4,h5,h6,h7,h8⟩:=h;have hlt:a<T.length:=by
  by_cases hlt:a<T.length
  ·exact hlt
  ·rw [List.drop_eq_nil_of_le (by omega)] at e;cases e
 have et:T[a]=t:=by
  rw [List.drop_eq_getElem_cons hlt] at e;exact (List.cons.inj e).1
 obtain ⟨g,rfl,hg,t0,t1,t2⟩:=h7 a hlt;rw [et] at t0 t1 t2;exact ⟨g,T.length,cap,a,h6.2.1 0 _ rfl,h6.2.1 1 _ rfl,h6.2.1 3 _ rfl,by omega,by omega,t0,t1,t2⟩
theorem rs_nil {tn lo kp:Nat} {en:Int} {w:World} {E Bad:Int} (h:RS tn lo kp en w [] E Bad):∃ (av:Option Addr) (len cap a:Nat),w.cell? ⟨kp,0,none⟩=some (.slice av len cap)∧w.cell? ⟨kp,1,none⟩=some (.int .i64 (a:Int))∧w.cell? ⟨kp,3,none⟩=some (.int .i64 E)∧¬ (a:Int)<(len:Int):=by
 obtain ⟨av,cap,T,a,e,h2,h3,h4,h5,h6,h7,h8⟩:=h;have hlt:¬ a<T.length:=by
  intro hlt;rw [List.drop_eq_getElem_cons hlt] at e;cases e
 exact ⟨av,T.length,cap,a,h6.2.1 0 _ rfl,h6.2.1 1 _ rfl,h6.2.1 3 _ rfl,by omega⟩
theorem rs_err {tn lo kp:Nat} {en:Int} {w:World} {ts:List Wlx.TV} {E Bad:Int} (h:RS tn lo kp en w ts E Bad):w.cell? ⟨kp,3,none⟩=some (.int .i64 E):=by
 obtain ⟨av,cap,T,a,e,h2,h3,h4,h5,h6,h7,h8⟩:=h;exact h6.2.1 3 _ rfl
theorem three_belowQ {w w':World} {k o k2 o2 k3 o3:Nat} {v v2 v3:Value} (hb:Below w.heap.size w w') (h:w.cell? ⟨k,o,none⟩=some v∧w.cell? ⟨k2,o2,none⟩=some v2∧w.cell? ⟨k3,o3,none⟩=some v3):w'.cell? ⟨k,o,none⟩=some v∧w'.cell? ⟨k2,o2,none⟩=some v2∧w'.cell? ⟨k3,o3,none⟩=some v3:=⟨cell_below hb h.1,cell_below hb h.2.1,cell_below hb h.2.2⟩
theorem qmore_none {sub:List Wlx.TV→PR} {k:Int} {row:List Wt.Nd} {us:List Wlx.TV} (h:tkOp k us=none):more sub k us.length row us=.inl (row,us):=by
 cases us with
 | nil=>rfl
 | cons t r=>simp only [List.length_cons,more,h]
theorem qmore_some {sub:List Wlx.TV→PR} (hsuf:∀ ts row r,sub ts=.inl (row,r)→r <:+ ts) {k:Int} {row:List Wt.Nd} {us r:List Wlx.TV} {oo:Int × List UInt8 × Int} (h:tkOp k us=some (oo,r)):more sub k us.length row us=match sub r with | .inr e=>.inr e | .inl (row2,r2)=>more sub k r2.length (opN (opKd oo.2.2) oo.1::(row++row2)) r2:=by
 have hl:=(tkOp_suf h).2;obtain ⟨n,hn⟩:∃ n,us.length=n+1:=⟨us.length - 1,by omega⟩
 rw [hn];simp only [more,h];cases hs:sub r with
 | inr e=>rfl
 | inl q =>
  obtain ⟨row2,r2⟩:=q;have:=(hsuf _ _ _ hs).length_le;exact more_fuel hsuf _ _ _ _ _ (by omega) (by omega)
theorem own_keep {w w':World} {B s:Nat} {v:Value} {L:List Wt.Nd} {row:Option Nat} (h:OwnN w B v L) (hlt:∀ g,v.ownBlock=some g→g<s) (hg:w.grownBy w' row) (hr:∀ b,row=some b→s≤b):OwnN w' B v L:=by
 refine World.ownsRow.kept h hg ?_;cases hv:v.ownBlock with
 | none=>exact Or.inl rfl
 | some g=>exact Or.inr fun e=>by have:=hlt g hv;have:=hr g e.symm;omega
theorem lev_cases (k:Nat) (hk:k<5) (us:List Wlx.TV):(us=[]∧tkOp k us=none) ∨ (∃ t r,us=t::r∧¬ t.k=5∧tkOp k us=none) ∨ (∃ t r,us=t::r∧t.k=5∧oas t.t k=0∧tkOp k us=none) ∨ (∃ t r o,us=t::r∧t.k=5∧oas t.t k=o.1∧¬ o.1=0∧opKd o.2.2=5∧tkOp k us=some (o,r)):=by
 cases us with
 | nil=>exact Or.inl ⟨rfl,rfl⟩
 | cons t r =>
  unfold tkOp;simp only;by_cases h5:t.k=5
  ·rw [if_pos h5];cases ha:Wt.opAs t.t k with
   | none=>exact Or.inr (Or.inr (Or.inl ⟨t,r,rfl,h5,by unfold oas;rw [ha],rfl⟩))
   | some x =>
    have hm:=List.mem_of_find?_eq_some ha;have hp:=List.find?_some ha;simp only [Bool.and_eq_true,beq_iff_eq] at hp;have hne:∀ y ∈ Wt.opsT,¬ y.1=0:=by decide
    refine Or.inr (Or.inr (Or.inr ⟨t,r,x,rfl,h5,by unfold oas;rw [ha],hne x hm,?_,rfl⟩));unfold opKd;rw [hp.2,if_pos (by omega)]
  ·rw [if_neg h5];exact Or.inr (Or.inl ⟨t,r,rfl,h5,rfl⟩)
theorem qlevel_any (tn lo kp:Nat) (en:Int) (k:Nat) (hk:k<5) (sub:List Wlx.TV→PR) (n:Nat) (HL:QLv tn lo kp en (k+1) sub n) (hsuf:∀ ts row r,sub ts=.inl (row,r)→r <:+ ts) (hfit:∀ ts row r2,(∀ t ∈ ts,TokOk t)→sub ts=.inl (row,r2)→Fits ts.length row r2):QLv tn lo kp en k (pbt sub k) n:=by
 intro ts w hn hok h;obtain ⟨hkl,hlo,h1024⟩:=h.lo;have hkw:kp<w.heap.size:=by omega
 have ek:((k+1:Nat):Int)=(k:Int)+1:=by omega
 have SL:=HL;unfold QLv at SL;simp only [ek] at SL;have hk5:((k:Int) == 5)=false:=by simp;omega
 have hki:(k:Int)<5:=by omega
 have S:=SL ts w hn hok h;have OPP:=fun m w=>qop_any k hk m w
 clear HL h ek;unfold pbt;cases hs:sub ts with
 | inr q =>
  obtain ⟨c,p⟩:=q;rw [hs] at S;clear hfit hs hsuf SL OPP;simp only;go_enter Tryz.func25,Tryz.ntmps25;go_wp2_with fail
  refine S.mono ?_;rintro e w1 ⟨hg,hc,v,row,ts2,rfl,own,hl,hR⟩;have c3:=rs_err hR;have hcd:(c == 0)=false:=by simpa using hc
  clear S;go_wp2_with fail
  go_loopg [5] 0 (fun gk x wr=>x=v∧gk=0∧w1=wr)
  case atStart=>exact ⟨rfl,rfl,rfl⟩
  case round =>
   obtain ⟨rfl,hgk,rfl⟩:=hrel;go_wp2_with fail
   go_quiet (fail)
   have hb9:Below w1.heap.size w1 (w1.drewN nq):=below_drewN (Below.refl _ _) nq;go_wp2;go_ret;exact ⟨grown_trans hg (below_grown hb9 _),hc,_,row,ts2,rfl,own.below hb9,hl,hR.below hb9⟩
 | inl q =>
  obtain ⟨row0,rest⟩:=q;rw [hs] at S;obtain ⟨-,hf⟩:=hfit ts row0 rest hok hs;have hok0:∀ t ∈ rest,TokOk t:=fun t ht=>hok t ((hsuf ts row0 rest hs).subset ht)
  clear hs hok;simp only;obtain ⟨R0,hR0⟩:∃ q:PR,q=more sub k rest.length row0 rest:=⟨_,rfl⟩
  rw [←hR0];have HQ0:Hid (R0=more sub k rest.length row0 rest):=hR0;clear hR0;go_enter Tryz.func25,Tryz.ntmps25;go_wp2_with fail
  refine S.mono ?_;rintro e w1 ⟨hg1,v1,rfl,own1,hR1⟩;clear S;go_wp2_with fail
  go_loopg [5] (rest.length+1) (fun gk x wr=>Hid (w.grownBy wr (some kp))∧((∃ (row:List Wt.Nd) (us:List Wlx.TV),gk=us.length+1∧row.length+us.length≤ts.length∧Hid (∀ t ∈ us,TokOk t)∧Hid (R0=more sub k us.length row us)∧Hid (OwnN wr w.heap.size x row)∧Hid (RS tn lo kp en wr us 0 0)) ∨ (∃ (c p:Int) (row:List Wt.Nd) (us:List Wlx.TV),gk=0∧¬ c=0∧row.length≤ts.length+1∧Hid (R0=.inr (c,p))∧Hid (OwnN wr w.heap.size x row)∧Hid (RS tn lo kp en wr us c p))))
  case atStart=>exact ⟨hg1,Or.inl ⟨row0,rest,rfl,hf,hok0,HQ0,own1,hR1⟩⟩
  case round =>
   clear HQ0 own1 hR1 hg1 hf hok0;obtain ⟨HG,⟨row,us,hgk,hf,HK,HQ,HO,HR⟩ | ⟨c,p,row,us,hgk,hc,hl,HQ,HO,HR⟩⟩:=hrel
   ·have HW:Hid (w.heap.size≤wr.heap.size):=HG.out.size;rcases lev_cases k hk us with ⟨rfl,ht⟩ | ⟨t,r,rfl,h5,ht⟩ | ⟨t,r,rfl,h5,ho,ht⟩ | ⟨t,r,oo,rfl,h5,ho,ho0,hkd,ht⟩
    ·obtain ⟨av,len,cap,a,c0,c1,c3,hal⟩:=rs_nil HR.out;have hald:decide (a<len)=false:=by simp;omega
     have HQ2:Hid (R0=.inl (row,[])):=by show _=_;rw [HQ.out,qmore_none ht]
     clear HQ ht;go_wp2_with fail
     go_quiet (fail)
     have hb9:Below wr.heap.size wr (wr.drewN nq):=below_drewN (Below.refl _ _) nq;go_wp2;go_ret;rw [HQ2.out];exact ⟨grown_trans HG.out (below_grown hb9 _),_,rfl,HO.out.below hb9,HR.out.below hb9⟩
    ·obtain ⟨g,len,cap,a,c0,c1,c3,hal,ha,t0,t1,t2⟩:=rs_open HR.out;have h5d:(t.k == 5)=false:=by simpa using h5
     have HQ2:Hid (R0=.inl (row,t::r)):=by show _=_;rw [HQ.out,qmore_none ht]
     clear HQ ht;go_wp2_with fail
     go_quiet (fail)
     have hb9:Below wr.heap.size wr (wr.drewN nq):=below_drewN (Below.refl _ _) nq;go_wp2;go_ret;rw [HQ2.out];exact ⟨grown_trans HG.out (below_grown hb9 _),_,rfl,HO.out.below hb9,HR.out.below hb9⟩
    ·obtain ⟨g,len,cap,a,c0,c1,c3,hal,ha,t0,t1,t2⟩:=rs_open HR.out;rw [h5] at t0;have OP:=fun w=>OPP t.t w
     rw [ho] at OP;have HQ2:Hid (R0=.inl (row,t::r)):=by show _=_;rw [HQ.out,qmore_none ht]
     clear HQ ht OPP;generalize (⟨t.t.toArray⟩:ByteArray)=tt at *;go_wp2_with fail
     go_quiet (fail)
     have hb9:Below wr.heap.size wr (wr.drewN nq):=below_drewN (Below.refl _ _) nq;have hS:(wr.drewN nq).cell? ⟨kp,0,none⟩=some (.slice (some ⟨g,0,none⟩) len cap)∧(wr.drewN nq).cell? ⟨kp,1,none⟩=some (.int .i64 (a:Int))∧(wr.drewN nq).cell? ⟨g,a * 3+1,none⟩=some (.string tt):=⟨cell_below hb9 c0,cell_below hb9 c1,cell_below hb9 t1⟩
     have hB:=hb9;have hHO:=HO.out.below hb9;generalize wr.drewN nq=W9 at *;clear c0 c1 c3 t0 t1 t2;go_wp2_with fail
     go_region_held3 (fun W=>W.cell? ⟨kp,0,none⟩=some (.slice (some ⟨g,0,none⟩) len cap)∧W.cell? ⟨kp,1,none⟩=some (.int .i64 (a:Int))∧W.cell? ⟨g,a * 3+1,none⟩=some (.string tt))
      (with_reducible first | exact hS | assumption | exact three_belowQ (Below.refl _ _).drew hS | exact three_belowQ hb (by assumption))
      (first | (go_at_call 43;refine (OP _).mono ?_;rintro e w4 ⟨rfl,hb⟩;(with_reducible first | replace hB:=below_end hB.drew hb | replace hB:=below_end hB hb)))
     all_goals
      go_wp2;go_ret;rw [HQ2.out];exact ⟨grown_trans HG.out (below_grown hB _),_,rfl,HO.out.below hB,HR.out.below hB⟩
    ·obtain ⟨g,len,cap,a,c0,c1,c3,hal,ha,t0,t1,t2⟩:=rs_open HR.out;rw [h5] at t0;have OP:=fun w=>OPP t.t w
     rw [ho] at OP;have HC1:Hid (wr.cell? ⟨kp,1,none⟩=some (.int .i64 (a:Int))):=c1;have hob:(oo.1 == 0)=false:=by simpa using ho0
     have HM:Hid (more sub k (t::r).length row (t::r)=match sub r with | .inr e=>.inr e | .inl (row2,r2)=>more sub k r2.length (opN (opKd oo.2.2) oo.1::(row++row2)) r2):=qmore_some hsuf ht;have hrn:r.length≤n:=by simp only [List.length_cons] at hf;omega
     have hf2:row.length+r.length+1≤ts.length:=by simp only [List.length_cons] at hf;omega
     have hokr:∀ x ∈ r,TokOk x:=fun x hx=>HK.out x (List.mem_cons_of_mem _ hx)
     clear ht OPP HK;generalize (⟨t.t.toArray⟩:ByteArray)=tt at *;go_wp2_with fail
     go_quiet (fail)
     have hb9:Below wr.heap.size wr (wr.drewN nq):=below_drewN (Below.refl _ _) nq;have hS:(wr.drewN nq).cell? ⟨kp,0,none⟩=some (.slice (some ⟨g,0,none⟩) len cap)∧(wr.drewN nq).cell? ⟨kp,1,none⟩=some (.int .i64 (a:Int))∧(wr.drewN nq).cell? ⟨g,a * 3+1,none⟩=some (.string tt):=⟨cell_below hb9 c0,cell_below hb9 c1,cell_below hb9 t1⟩
     have hB:=hb9;generalize wr.drewN nq=W9 at *;clear c0 c1 c3 t0 t1 t2 hb9;generalize oo.1=ov at *;rw [hkd] at HM;go_wp2_with fail
     go_region_held3 (fun W=>W.cell? ⟨kp,0,none⟩=some (.slice (some ⟨g,0,none⟩) len cap)∧W.cell? ⟨kp,1,none⟩=some (.int .i64 (a:Int))∧W.cell? ⟨g,a * 3+1,none⟩=some (.string tt))
      (with_reducible first | exact hS | assumption | exact three_belowQ (Below.refl _ _).drew hS | exact three_belowQ hb (by assumption))
      (first | (go_at_call 43;refine (OP _).mono ?_;rintro e w4 ⟨rfl,hb⟩;(with_reducible first | replace hB:=below_end hB.drew hb | replace hB:=below_end hB hb)))
     all_goals
      have hRq:=HR.out.below hB;have hGq:w.grownBy w4 (some kp):=grown_trans HG.out (below_grown hB _);have hOq:=HO.out.below hB;obtain ⟨a2,ha2,c1,z1,hR,hG⟩:=rs_pass hRq;have ea:a2=a:=by
       have e2:=cell_below hB HC1.out;rw [c1] at e2;have e3:(a2:Int)=(a:Int):=by simpa using e2
       omega
      rw [ea] at c1 hR hG;clear ea ha2;have HRW:Hid (RS tn lo kp en (w4.setCell ⟨kp,1,none⟩ (.int .i64 ((a:Int)+1))) r 0 0):=hR;have HGW:Hid (w.grownBy (w4.setCell ⟨kp,1,none⟩ (.int .i64 ((a:Int)+1))) (some kp)):=grown_trans hGq hG;have HOW:Hid (OwnN (w4.setCell ⟨kp,1,none⟩ (.int .i64 ((a:Int)+1))) w.heap.size u5 row):=own_grown hOq hG hkw;clear hRq hGq hOq hR hG HR HG HO hB OP;go_upto_region 8 with fail
      obtain ⟨W,hW⟩:∃ W,w4.setCell ⟨kp,1,none⟩ (.int .i64 ((a:Int)+1))=W:=⟨_,rfl⟩
      rw [hW] at HRW HGW HOW ⊢;have hRW:=HRW.out;have hGW:=HGW.out;have hOW:=HOW.out;have hsW:=hGW.size;clear hW HRW HGW HOW c1 z1;have S2:=SL r W hrn hokr hRW;go_wp2_with fail
      cases hs2:sub r with
      | inl q =>
       obtain ⟨row2,r2⟩:=q;rw [hs2] at S2;refine S2.mono ?_;rintro e w2 ⟨hg2,vb,rfl,ownb,hRb⟩;have hG2:w.grownBy w2 (some kp):=grown_trans hGW hg2;have hO2:OwnN w2 w.heap.size u5 row:=own_grown hOW hg2 hkw;have l5:=hO2.lt;have lb:=ownb.lt;have hs2z:=hG2.size;have hft:=(hfit r row2 r2 hokr hs2).2;have hsf:=hsuf r row2 r2 hs2;clear S2 hg2 hGW hOW hRW;go_wp2_with (first
        | ((with_reducible refine wpList_bldO ?_ (.const (.int .i64 5)) (.tmp 75) ?_ 5 ov ?_ ?_ ?_);rfl;rfl;rfl;rfl)
        | ((with_reducible refine wpList_bs1n ?_ (.tmp 76) ?_ (opN 5 ov) ?_ ?_);rfl;rfl;rfl)
        | (at_builtin;refine wpList_appG (by rfl) (.tmp 74) (.tmp 77) (by rfl) _ w2.heap.size (by simp only [World.size_alloc];omega) _ [] (by rfl) (World.ownsRow_nil _ _ _ _) _ _ [opN 5 ov] (by rfl) (own_one w2 (opN 5 ov)) (fun _=>by simp) ?_))
       intro va wa rowa owna hga hra hva;have hGa:w.grownBy wa (some kp):=grown_mix (grown_trans hG2 (World.grownBy_alloc _ _ _)) hga (fun b e=>Nat.le_trans hs2z (hra b e));have hRa:=(hRb.row (World.grownBy_alloc w2 _ none) (by simp)).row hga (fun b e=>Nat.le_trans (Nat.le_trans hlo hs2z) (hra b e));have hsa:w2.heap.size≤wa.heap.size:=Nat.le_trans (by simp) hga.size;have hO5:OwnN wa w.heap.size u5 row:=own_keep (own_any hO2 (World.grownBy_alloc w2 _ none) (by simp)) (fun g e=>(l5 g e).2) hga hra;have hOb:OwnN wa W.heap.size vb row2:=own_keep (own_any ownb (World.grownBy_alloc w2 _ none) (by simp)) (fun g e=>(lb g e).2) hga hra;clear hga hra hva hO2 ownb hRb hG2;go_wp2_with (at_builtin;refine wpList_appG (by rfl) (.tmp 79) (.tmp 80) (by rfl) wa w2.heap.size hsa va [opN 5 ov] (by rfl) owna u5 _ row (by rfl) hO5 (fun _=>by simp only [List.length_singleton];omega) ?_)
       intro vc wc rowc ownc hgc hrc _;have hGc:w.grownBy wc (some kp):=grown_mix hGa hgc (fun b e=>Nat.le_trans hs2z (hrc b e));have hRc:=hRa.row hgc (fun b e=>Nat.le_trans (Nat.le_trans hlo hs2z) (hrc b e));have hsc:w2.heap.size≤wc.heap.size:=Nat.le_trans hsa hgc.size;have hOc:OwnN wc W.heap.size vb row2:=own_keep hOb (fun g e=>(lb g e).2) hgc hrc;clear hgc hrc owna hO5 hOb hGa hRa;go_wp2_with (at_builtin;refine wpList_appG (by rfl) (.tmp 82) (.tmp 83) (by rfl) wc w2.heap.size hsc vc ([opN 5 ov]++row) (by rfl) ownc vb _ row2 (by rfl) hOc (fun _=>by simp only [List.length_append,List.length_singleton];omega) ?_)
       intro vd wd rowd ownd hgd hrd _;have HGd:Hid (w.grownBy wd (some kp)):=grown_mix hGc hgd (fun b e=>Nat.le_trans hs2z (hrd b e));have hRd:=hRc.row hgd (fun b e=>Nat.le_trans (Nat.le_trans hlo hs2z) (hrd b e));have HOd:Hid (OwnN wd w.heap.size vd (opN 5 ov::(row++row2))):=by
        have:=own_ge ownd hs2z;first | exact this | (rw [List.append_assoc] at this;exact this)
       have HQ2:Hid (R0=more sub k r2.length (opN 5 ov::(row++row2)) r2):=by show _=_;rw [HQ.out,HM.out,hs2]
       have HRd:Hid (RS tn lo kp en wd r2 0 0):=hRd;have HKd:Hid (∀ x ∈ r2,TokOk x):=fun x hx=>hokr x (hsf.subset hx)
       clear hgd hrd ownc hOc hGc hRc hRd ownd HQ HM hs2;go_wp2_with fail
       go_roundg (r2.length+1)
       case rel=>exact ⟨HGd,Or.inl ⟨_,r2,rfl,by simp only [List.length_cons,List.length_append];omega,HKd,HQ2,HOd,HRd⟩⟩
       case measure=>simp only [List.length_cons] at hgk;omega
      | inr q =>
       obtain ⟨c,p⟩:=q;rw [hs2] at S2;refine S2.mono ?_;rintro e w2 ⟨hg2,hc,vb,row2,ts2,rfl,ownb,hrw,hRb⟩;have hG2:w.grownBy w2 (some kp):=grown_trans hGW hg2;have hO2:OwnN w2 w.heap.size u5 row:=own_grown hOW hg2 hkw;have l5:=hO2.lt;have lb:=ownb.lt;have hs2z:=hG2.size;clear S2 hg2 hGW hOW hRW;go_wp2_with (first
        | ((with_reducible refine wpList_bldO ?_ (.const (.int .i64 5)) (.tmp 75) ?_ 5 ov ?_ ?_ ?_);rfl;rfl;rfl;rfl)
        | ((with_reducible refine wpList_bs1n ?_ (.tmp 76) ?_ (opN 5 ov) ?_ ?_);rfl;rfl;rfl)
        | (at_builtin;refine wpList_appG (by rfl) (.tmp 74) (.tmp 77) (by rfl) _ w2.heap.size (by simp only [World.size_alloc];omega) _ [] (by rfl) (World.ownsRow_nil _ _ _ _) _ _ [opN 5 ov] (by rfl) (own_one w2 (opN 5 ov)) (fun _=>by simp) ?_))
       intro va wa rowa owna hga hra hva;have hGa:w.grownBy wa (some kp):=grown_mix (grown_trans hG2 (World.grownBy_alloc _ _ _)) hga (fun b e=>Nat.le_trans hs2z (hra b e));have hRa:=(hRb.row (World.grownBy_alloc w2 _ none) (by simp)).row hga (fun b e=>Nat.le_trans (Nat.le_trans hlo hs2z) (hra b e));have hsa:w2.heap.size≤wa.heap.size:=Nat.le_trans (by simp) hga.size;have hO5:OwnN wa w.heap.size u5 row:=own_keep (own_any hO2 (World.grownBy_alloc w2 _ none) (by simp)) (fun g e=>(l5 g e).2) hga hra;have hOb:OwnN wa W.heap.size vb row2:=own_keep (own_any ownb (World.grownBy_alloc w2 _ none) (by simp)) (fun g e=>(lb g e).2) hga hra;clear hga hra hva hO2 ownb hRb hG2;go_wp2_with (at_builtin;refine wpList_appG (by rfl) (.tmp 79) (.tmp 80) (by rfl) wa w2.heap.size hsa va [opN 5 ov] (by rfl) owna u5 _ row (by rfl) hO5 (fun _=>by simp only [List.length_singleton];omega) ?_)
       intro vc wc rowc ownc hgc hrc _;have hGc:w.grownBy wc (some kp):=grown_mix hGa hgc (fun b e=>Nat.le_trans hs2z (hrc b e));have hRc:=hRa.row hgc (fun b e=>Nat.le_trans (Nat.le_trans hlo hs2z) (hrc b e));have hsc:w2.heap.size≤wc.heap.size:=Nat.le_trans hsa hgc.size;have hOc:OwnN wc W.heap.size vb row2:=own_keep hOb (fun g e=>(lb g e).2) hgc hrc;clear hgc hrc owna hO5 hOb hGa hRa;go_wp2_with (at_builtin;refine wpList_appG (by rfl) (.tmp 82) (.tmp 83) (by rfl) wc w2.heap.size hsc vc ([opN 5 ov]++row) (by rfl) ownc vb _ row2 (by rfl) hOc (fun _=>by simp only [List.length_append,List.length_singleton];omega) ?_)
       intro vd wd rowd ownd hgd hrd _;have HGd:Hid (w.grownBy wd (some kp)):=grown_mix hGc hgd (fun b e=>Nat.le_trans hs2z (hrd b e));have hRd:=hRc.row hgd (fun b e=>Nat.le_trans (Nat.le_trans hlo hs2z) (hrd b e));have HOd:Hid (OwnN wd w.heap.size vd (opN 5 ov::(row++row2))):=by
        have:=own_ge ownd hs2z;first | exact this | (rw [List.append_assoc] at this;exact this)
       have HQ2:Hid (R0=.inr (c,p)):=by show _=_;rw [HQ.out,HM.out,hs2]
       have HRd:Hid (RS tn lo kp en wd ts2 c p):=hRd;clear hgd hrd ownc hOc hGc hRc hRd ownd HQ HM hs2;go_wp2_with fail
       go_roundg 0
       case rel=>exact ⟨HGd,Or.inr ⟨c,p,_,ts2,rfl,hc,by simp only [List.length_cons,List.length_append];omega,HQ2,HOd,HRd⟩⟩
       case measure=>simp only [List.length_cons] at hgk;omega
   ·have c3:=rs_err HR.out;have hcd:(c == 0)=false:=by simpa using hc
    go_wp2_with fail
    go_quiet (fail)
    have hb9:Below wr.heap.size wr (wr.drewN nq):=below_drewN (Below.refl _ _) nq;go_wp2;go_ret;rw [HQ.out];exact ⟨grown_trans HG.out (below_grown hb9 _),hc,_,row,us,rfl,HO.out.below hb9,hl,HR.out.below hb9⟩
end Go.Proofs.YtlggnpohhahdlaaGreatDoor
namespace Wpl
theorem fv_snoc (k:Nat) (l:List UInt8) (c:UInt8):fv k (l++[c])=fv k l * 10+(c.toNat - 48):=by unfold fv;rw [List.foldl_append];rfl
theorem take_more {D:List UInt8} {j:Nat} {d:UInt8} (h:D[j]? = some d):D.take (j+1)=D.take j++[d]:=by
 obtain ⟨hj,e⟩:=List.getElem?_eq_some_iff.1 h;rw [List.take_succ_eq_append_getElem hj,e]
theorem fv_take {D:List UInt8} {j:Nat} {d:UInt8} (h:D[j]? = some d):fv 0 (D.take (j+1))=fv 0 (D.take j) * 10+(d.toNat - 48):=by
 rw [take_more h,fv_snoc]
theorem all_take {D:List UInt8} {j:Nat} {d:UInt8} (h:D[j]? = some d):allG (D.take (j+1))=(allG (D.take j) && isG d):=by
 rw [take_more h];simp [allG]
theorem all_not {D:List UInt8} {j:Nat} {d:UInt8} (h:D[j]? = some d) (hd:isG d=false):allG D=false:=by
 unfold allG;rw [List.all_eq_false];exact ⟨d,List.mem_of_getElem? h,by simp [hd]⟩
theorem fv_lt {k:Nat}:∀ (l:List UInt8),allG l=true→fv k l<(k+1) * 10 ^ l.length:=by
 intro l;induction l generalizing k with
 | nil=>simp [fv]
 | cons c t ih =>
  intro h;simp only [allG,List.all_cons,Bool.and_eq_true] at h;have hc:=h.1;simp only [isG,decide_eq_true_eq] at hc;have:=ih (k:=k * 10+(c.toNat - 48)) (by simpa [allG] using h.2);rw [fv_cons];have h2:(k * 10+(c.toNat - 48)+1) * 10 ^ t.length≤((k+1) * 10) * 10 ^ t.length:=Nat.mul_le_mul_right _ (by omega);rw [List.length_cons,Nat.pow_succ,Nat.mul_comm (10 ^ t.length) 10,←Nat.mul_assoc];omega
theorem fv_five {D:List UInt8} {j:Nat} (hj:j≤5) (h:allG (D.take j)=true):fv 0 (D.take j)<100000:=by
 have:=fv_lt (k:=0) _ h;have h2:(D.take j).length≤5:=by have:=List.length_take_le j D;omega
 have h3:10 ^ (D.take j).length≤10 ^ 5:=Nat.pow_le_pow_right (by omega) h2;omega
end Wpl
namespace Wpl
theorem dig_toNat {q:Nat} (h:q≤9):(UInt8.ofNat (48+q)).toNat=48+q:=by
 rw [UInt8.toNat_ofNat'];exact Nat.mod_eq_of_lt (by omega)
theorem let_toNat {q:Nat} (h:q≤25):(UInt8.ofNat (65+q)).toNat=65+q:=by
 rw [UInt8.toNat_ofNat'];exact Nat.mod_eq_of_lt (by omega)
theorem dd_le {u:Nat} (h:u<10):Go.Lib.decDigits u=[UInt8.ofNat (48+u)]:=by
 unfold Go.Lib.decDigits;rw [dif_pos h]
theorem dd_gt {u:Nat} (h:¬ u<10):Go.Lib.decDigits u=Go.Lib.decDigits (u / 10)++[UInt8.ofNat (48+u % 10)]:=by
 conv=>lhs;unfold Go.Lib.decDigits
 rw [dif_neg h]
theorem dd_is (u:Nat):allG (Go.Lib.decDigits u)=true∧fv 0 (Go.Lib.decDigits u)=u∧(1≤u→∃ d t,Go.Lib.decDigits u=d::t∧d.toNat ≠ 48):=by
 induction u using Nat.strongRecOn with
 | _ u ih =>
  by_cases h:u<10
  ·rw [dd_le h];have hd:=dig_toNat (q:=u) (by omega);refine ⟨?_,?_,fun h1=>⟨_,_,rfl,by rw [hd];omega⟩⟩
   ·simp only [allG,List.all_cons,List.all_nil,Bool.and_true,isG,hd];simp;omega
   ·unfold fv;simp only [List.foldl_cons,List.foldl_nil,hd];omega
  ·obtain ⟨i1,i2,i3⟩:=ih (u / 10) (by omega);rw [dd_gt h];have hd:=dig_toNat (q:=u % 10) (by omega);refine ⟨?_,?_,fun _=>?_⟩
   ·simp only [allG,List.all_append,List.all_cons,List.all_nil,Bool.and_true,Bool.and_eq_true];refine ⟨i1,?_⟩;simp only [isG,hd];simp;omega
   ·rw [fv_snoc,i2,hd];omega
   ·obtain ⟨d,t,e1,e2⟩:=i3 (by omega);exact ⟨d,t++[UInt8.ofNat (48+u % 10)],by rw [e1];rfl,e2⟩
theorem dg_dd {u:Nat} (h1:1≤u) (h2:u≤65536):dgOk (Go.Lib.decDigits u)=true∧(rr (Go.Lib.decDigits u)).1=u∧noL (Go.Lib.decDigits u)=true:=by
 obtain ⟨a,b,c⟩:=dd_is u;obtain ⟨d,t,e,hd⟩:=c h1;rw [e] at a b ⊢;have hne:d ≠ 48:=fun x=>hd (by rw [x];rfl)
 have ha:=a;simp only [allG,List.all_cons,Bool.and_eq_true] at ha;have hg:=ha.1;simp only [isG,decide_eq_true_eq] at hg;have hlen:t.length<5:=by
  have:=fv_ge t (0 * 10+(d.toNat - 48));rw [fv_cons] at b;apply Classical.byContradiction
  intro hn;have h4:1 * 10 ^ 5≤(0 * 10+(d.toNat - 48)) * 10 ^ t.length:=Nat.mul_le_mul (by omega) (Nat.pow_le_pow_right (by omega) (by omega));omega
 obtain ⟨g1,g2,_⟩:=dg_in hne a hlen;refine ⟨by rw [g1,b];simpa using h2,by rw [g2,b],?_⟩;simp [noL,isL];omega
theorem letter_is {q:Nat} (h:q≤25):isL (UInt8.ofNat (65+q))=true∧vl (UInt8.ofNat (65+q))=q+1:=by
 have e:=let_toNat h;constructor
 ·simp only [isL,e];simp;omega
 ·unfold vl;rw [e];omega
theorem txt_reads {r c:Int} (r0:0≤r) (r1:r<65536) (c0:0≤c) (c1:c<256):rdOk (txtC r c)=true∧rdR (txtC r c)=r∧rdC (txtC r c)=c:=by
 obtain ⟨g1,g2,g3⟩:=dg_dd (u:=(r+1).toNat) (by omega) (by omega);have hc:colS c=colT c.toNat:=by unfold colS;rw [inB_iff.2 ⟨c0,c1⟩];rfl
 have key:rdOk (txtC r c)=true∧rc 0 (txtC r c)=(c.toNat+1,Go.Lib.decDigits (r+1).toNat):=by
  unfold txtC;rw [hc];unfold colT;by_cases h:c.toNat<26
  ·rw [if_pos h];obtain ⟨l1,l2⟩:=letter_is (q:=c.toNat) (by omega);obtain ⟨k1,k2⟩:=rd_one l1 g3;rw [List.cons_append,List.nil_append];exact ⟨by rw [k1,g1],by rw [k2,l2]⟩
  ·rw [if_neg h];obtain ⟨l1,l2⟩:=letter_is (q:=c.toNat / 26 - 1) (by omega);obtain ⟨m1,m2⟩:=letter_is (q:=c.toNat % 26) (by omega);obtain ⟨k1,k2⟩:=rd_two l1 m1 g3;rw [List.cons_append,List.cons_append,List.nil_append];refine ⟨?_,?_⟩
   ·rw [k1,g1,l2,m2,decide_eq_true (by omega)];rfl
   ·rw [k2,l2,m2];congr 1
    omega
 obtain ⟨k1,k2⟩:=key;refine ⟨k1,?_,?_⟩
 ·unfold rdR;rw [k1,k2];simp only [if_true,g2];omega
 ·unfold rdC;rw [k1,k2];simp only [if_true];omega
end Wpl
namespace Go.Proofs.YtlggnpohhahdlaaGreatDoor
open Go.RowKit Go.Shelf
set_option linter.unusedVariables false
theorem isG_iff {c:UInt8}:Wpl.isG c=true ↔ 48≤c.toNat∧c.toNat≤57:=by simp [Wpl.isG]
theorem isL_iff {c:UInt8}:Wpl.isL c=true ↔ 65≤c.toNat∧c.toNat≤90:=by simp [Wpl.isL]
theorem dd_canon:∀ (n:Nat) (D:List UInt8),D.length=n+1→Wpl.allG D=true→¬ D.head? = some 48→Lib.decDigits (Wpl.fv 0 D)=D:=by
 intro n;induction n with
 | zero =>
  intro D hl hg hh;match D,hl with
  | [d],_ =>
   have h:=isG_iff.1 (by simpa [Wpl.allG] using hg);have e:Wpl.fv 0 [d]=d.toNat - 48:=by simp [Wpl.fv]
   rw [e,Wpl.dd_le (by omega)];congr 1
   rw [show 48+(d.toNat - 48)=d.toNat by omega];exact UInt8.ofNat_toNat
 | succ n ih =>
  intro D hl hg hh;obtain ⟨D1,d,rfl⟩:∃ D1 d,D=D1++[d]:=by
   have hne:D ≠ []:=by intro e;rw [e] at hl;simp at hl
   exact ⟨D.dropLast,D.getLast hne,(List.dropLast_concat_getLast hne).symm⟩
  have hl1:D1.length=n+1:=by simpa using hl
  have hg1:Wpl.allG D1=true∧Wpl.isG d=true:=by simpa [Wpl.allG] using hg
  have hh1:¬ D1.head? = some 48:=by
   cases D1 with
   | nil=>simp at hl1
   | cons c t=>simpa using hh
  have hd:=isG_iff.1 hg1.2;have hv:1≤Wpl.fv 0 D1:=by
   cases D1 with
   | nil=>simp at hl1
   | cons c t =>
    have hc:=isG_iff.1 (by have:=hg1.1;simp only [Wpl.allG,List.all_cons,Bool.and_eq_true] at this;exact this.1);have hc0:c ≠ 48:=by simpa using hh1
    have hcn:c.toNat ≠ 48:=fun e=>hc0 (UInt8.toNat_inj.1 (by rw [e];rfl))
    rw [Wpl.fv_cons];have:=Wpl.fv_ge t (0 * 10+(c.toNat - 48));have hp:1≤10 ^ t.length:=Nat.one_le_pow _ _ (by omega);have:1 * 1≤(0 * 10+(c.toNat - 48)) * 10 ^ t.length:=Nat.mul_le_mul (by omega) hp;omega
  rw [Wpl.fv_snoc,Wpl.dd_gt (by omega),show (Wpl.fv 0 D1 * 10+(d.toNat - 48)) / 10=Wpl.fv 0 D1 by omega,ih D1 hl1 hg1.1 hh1];congr 2
  rw [show 48+(Wpl.fv 0 D1 * 10+(d.toNat - 48)) % 10=d.toNat by omega];exact UInt8.ofNat_toNat
theorem dg_canon {t:List UInt8} (h:Wpl.dgOk t=true):Wpl.allG t=true∧t ≠ []∧Lib.decDigits (Wpl.rr t).1=t∧1≤(Wpl.rr t).1∧(Wpl.rr t).1≤65536:=by
 have h':=of_decide_eq_true h;have hne:t ≠ []:=by intro e;rw [e] at h;rw [Wpl.dg_nil] at h;cases h
 have hh:¬ t.head? = some 48:=by
  intro e;have:Wpl.rr t=(0,t):=by unfold Wpl.rr;rw [if_pos e]
  rw [this] at h';omega
 have er:Wpl.rr t=Wpl.rd 0 t:=by unfold Wpl.rr;rw [if_neg hh]
 rw [er] at h' ⊢;obtain ⟨g,v⟩:=Wpl.rd_inv t 0 h'.1;obtain ⟨n,hn⟩:∃ n,t.length=n+1:=⟨t.length - 1,by cases t;exact absurd rfl hne;simp⟩
 exact ⟨g,hne,by rw [v];exact dd_canon n t hn g hh,h'.2.1,h'.2.2⟩
theorem letter_back {a:UInt8} (h:Wpl.isL a=true):UInt8.ofNat (65+(Wpl.vl a - 1))=a:=by
 have:=isL_iff.1 h;unfold Wpl.vl;rw [show 65+(a.toNat - 65+1 - 1)=a.toNat by omega];exact UInt8.ofNat_toNat
theorem vl_bd {a:UInt8} (h:Wpl.isL a=true):1≤Wpl.vl a∧Wpl.vl a≤26:=by
 have:=isL_iff.1 h;unfold Wpl.vl;omega
theorem rd_canon {s:List UInt8} (h:Wpl.rdOk s=true):∃ A D,s=A++D∧A.all Wpl.isL=true∧A ≠ []∧D.all Wpl.isG=true∧D ≠ []∧Wpl.colS (Wpl.rdC s)=A∧Lib.decDigits (Wpl.rdR s+1).toNat=D∧(0≤Wpl.rdC s∧Wpl.rdC s<256):=by
 have key:∀ (A D:List UInt8) (k:Nat),s=A++D→A.all Wpl.isL=true→A ≠ []→Wpl.dgOk D=true→Wpl.rc 0 s=(k,D)→1≤k→k≤256→Wpl.colT (k - 1)=A→∃ A D,s=A++D∧A.all Wpl.isL=true∧A ≠ []∧D.all Wpl.isG=true∧D ≠ []∧Wpl.colS (Wpl.rdC s)=A∧Lib.decDigits (Wpl.rdR s+1).toNat=D∧(0≤Wpl.rdC s∧Wpl.rdC s<256):=by
  intro A D k e hA hA0 hD hr k1 k2 hc;obtain ⟨g1,g2,g3,g4,g5⟩:=dg_canon hD;have eC:Wpl.rdC s=((k - 1:Nat):Int):=by unfold Wpl.rdC;rw [if_pos h,hr];simp only;omega
  have eR:Wpl.rdR s+1=((Wpl.rr D).1:Int):=by unfold Wpl.rdR;rw [if_pos h,hr];simp only;omega
  refine ⟨A,D,e,hA,hA0,g1,g2,?_,?_,by omega,by omega⟩
  ·rw [eC];unfold Wpl.colS;rw [Wpl.inB_iff.2 ⟨by omega,by omega⟩];simpa using hc
  ·rw [eR,Int.toNat_natCast];exact g3
 cases s with
 | nil=>rw [Wpl.rd_none] at h;cases h
 | cons a t =>
  cases ha:Wpl.isL a with
  | false=>rw [Wpl.rd_no t ha] at h;cases h
  | true =>
   have va:=vl_bd ha;cases t with
   | nil =>
    have:=(Wpl.rd_one ha (t:=[]) rfl).1;rw [this,Wpl.dg_nil] at h;cases h
   | cons b u =>
    cases hb:Wpl.isL b with
    | false =>
     have hn:Wpl.noL (b::u)=true:=by simp [Wpl.noL,hb]
     obtain ⟨k1,k2⟩:=Wpl.rd_one ha hn;exact key [a] (b::u) _ rfl (by simp [ha]) (by simp) (by rw [←k1];exact h) k2 va.1 (by omega) (by unfold Wpl.colT;rw [if_pos (by omega),letter_back ha])
    | true =>
     have vb:=vl_bd hb;cases hn:Wpl.noL u with
     | false =>
      cases u with
      | nil=>cases hn
      | cons c v =>
       have hc:Wpl.isL c=true:=by simpa [Wpl.noL] using hn
       rw [Wpl.rd_three v ha hb hc] at h;cases h
     | true =>
      obtain ⟨k1,k2⟩:=Wpl.rd_two ha hb hn;rw [k1,Bool.and_eq_true,decide_eq_true_eq] at h;refine key [a,b] u _ rfl (by simp [ha,hb]) (by simp) h.2 k2 (by omega) h.1 ?_;unfold Wpl.colT;have e1:(Wpl.vl a * 26+Wpl.vl b - 1) / 26 - 1=Wpl.vl a - 1:=by omega
      have e2:(Wpl.vl a * 26+Wpl.vl b - 1) % 26=Wpl.vl b - 1:=by omega
      rw [if_neg (by omega),e1,e2,letter_back ha,letter_back hb]
def qS (l:List UInt8):List UInt8:=if dol l then l.drop 1 else l
def qA (l:List UInt8):List UInt8:=(qS l).takeWhile Wpl.isL
def qD0 (l:List UInt8):List UInt8:=(qS l).dropWhile Wpl.isL
def qD (l:List UInt8):List UInt8:=qS (qD0 l)
def qW (l:List UInt8):Option Wt.Rf:=if Wpl.rdOk (qA l++qD l) && !(qA l).isEmpty && !(qD l).isEmpty && Wpl.isG ((qD l).headD 0) then some ⟨⟨#[]⟩,Wpl.rdR (qA l++qD l),Wpl.rdC (qA l++qD l),dol (qD0 l),dol l⟩ else none
theorem dol_fx (b:Bool) (A:List UInt8) (h:A ≠ []) (hA:A.headD 0 ≠ 36):dol (fx b++A)=b∧qS (fx b++A)=A:=by
 cases b with
 | true=>exact ⟨rfl,rfl⟩
 | false =>
  cases A with
  | nil=>exact absurd rfl h
  | cons c t =>
   have:dol (fx false++c::t)=false:=by
    show (c == 36)=false
    simpa using hA
   exact ⟨this,by unfold qS;rw [this];rfl⟩
theorem word_forms {l A D:List UInt8} {fc fr:Bool} (hl:l=fx fc++(A++(fx fr++D))) (hA:A.all Wpl.isL=true) (hA0:A ≠ []) (hD:D.all Wpl.isG=true) (hD0:D ≠ []) :
  dol l=fc∧qA l=A∧dol (qD0 l)=fr∧qD l=D∧undol l=A++D∧(qS l).any (fun c=>c == 36)=fr∧Wpl.isG (D.headD 0)=true:=by
 have nL:∀ x:UInt8,Wpl.isL x=true→(x == 36)=false:=fun x hx=>by
  have:=isL_iff.1 hx;simp only [beq_eq_false_iff_ne];rintro rfl;simp at this
 have nG:∀ x:UInt8,Wpl.isG x=true→(x == 36)=false∧Wpl.isL x=false:=fun x hx=>by
  have:=isG_iff.1 hx;refine ⟨by simp only [beq_eq_false_iff_ne];rintro rfl;simp at this,?_⟩;cases hq:Wpl.isL x with
  | false=>rfl
  | true=>have:=isL_iff.1 hq;omega
 have hAh:Wpl.isL (A.headD 0)=true:=by
  cases A with
  | nil=>exact absurd rfl hA0
  | cons c t=>simp only [List.all_cons,Bool.and_eq_true] at hA;exact hA.1
 have hDh:Wpl.isG (D.headD 0)=true:=by
  cases D with
  | nil=>exact absurd rfl hD0
  | cons c t=>simp only [List.all_cons,Bool.and_eq_true] at hD;exact hD.1
 obtain ⟨d1,d2⟩:=dol_fx fc (A++(fx fr++D)) (by simp [hA0]) (by
  cases A with
  | nil=>exact absurd rfl hA0
  | cons c t=>have:=nL _ hAh;simpa using this)
 obtain ⟨e1,e2⟩:=dol_fx fr D hD0 (by have:=(nG _ hDh).1;simpa using this);rw [←hl] at d1 d2;have hstop:∀ (x:UInt8) (r:List UInt8),fx fr++D=x::r→Wpl.isL x=false:=by
  intro x r hx;cases fr with
  | true =>
   have:x=36:=by have:=(List.cons.inj hx).1;exact this.symm
   rw [this];rfl
  | false =>
   have hx':D=x::r:=hx;rw [hx'] at hDh;exact (nG _ hDh).2
 have tA:∀ (A:List UInt8),A.all Wpl.isL=true→(A++(fx fr++D)).takeWhile Wpl.isL=A∧(A++(fx fr++D)).dropWhile Wpl.isL=fx fr++D:=by
  intro A hA;induction A with
  | nil =>
   cases hq:fx fr++D with
   | nil=>exact ⟨rfl,rfl⟩
   | cons x r =>
    have:=hstop x r hq;simp [this]
  | cons c t ih =>
   simp only [List.all_cons,Bool.and_eq_true] at hA;obtain ⟨i1,i2⟩:=ih hA.2;simp only [List.cons_append,List.takeWhile_cons,List.dropWhile_cons,hA.1,if_true,i1,i2,and_self]
 obtain ⟨t1,t2⟩:=tA A hA;have u1:A.filter (fun c=>!(c == 36))=A:=List.filter_eq_self.2 fun x hx=>by rw [nL x (List.all_eq_true.1 hA x hx)];rfl
 have u2:D.filter (fun c=>!(c == 36))=D:=List.filter_eq_self.2 fun x hx=>by rw [(nG x (List.all_eq_true.1 hD x hx)).1];rfl
 have u3:∀ b,(fx b).filter (fun c=>!(c == 36))=[]:=fun b=>by cases b <;> rfl
 have a1:A.any (fun c=>c == 36)=false:=by
  rw [List.any_eq_false];intro x hx;rw [nL x (List.all_eq_true.1 hA x hx)];simp
 have a2:D.any (fun c=>c == 36)=false:=by
  rw [List.any_eq_false];intro x hx;rw [(nG x (List.all_eq_true.1 hD x hx)).1];simp
 refine ⟨d1,by unfold qA;rw [d2,t1],by unfold qD0;rw [d2,t2,e1],by unfold qD qD0;rw [d2,t2,e2],?_,?_,hDh⟩
 ·unfold undol;rw [hl,List.filter_append,List.filter_append,List.filter_append,u1,u2,u3,u3];simp
 ·rw [d2,List.any_append,List.any_append,a1,a2];cases fr <;> rfl
theorem qS_back (l:List UInt8):l=fx (dol l)++qS l:=by
 unfold qS;cases l with
 | nil=>rfl
 | cons c t =>
  cases h:dol (c::t) with
  | false=>rfl
  | true =>
   have:c=36:=by simpa [dol] using h
   rw [this];rfl
theorem takeWhile_all (p:UInt8→Bool) (l:List UInt8):(l.takeWhile p).all p=true:=by
 induction l with
 | nil=>rfl
 | cons c t ih =>
  rw [List.takeWhile_cons];split
  ·rename_i h;simp [h,ih]
  ·rfl
theorem qW_rw1 (l:List UInt8):qW l=rw1 l:=by
 have hback:l=fx (dol l)++(qA l++(fx (dol (qD0 l))++qD l)):=by
  have e1:=qS_back l;have e2:qS l=qA l++qD0 l:=(List.takeWhile_append_dropWhile).symm;have e3:=qS_back (qD0 l);conv=>lhs;rw [e1,e2,e3]
  rfl
 by_cases hc:(Wpl.rdOk (qA l++qD l) && !(qA l).isEmpty && !(qD l).isEmpty && Wpl.isG ((qD l).headD 0))=true
 ·have hq:qW l=some ⟨⟨#[]⟩,Wpl.rdR (qA l++qD l),Wpl.rdC (qA l++qD l),dol (qD0 l),dol l⟩:=by unfold qW;rw [if_pos hc]
  simp only [Bool.and_eq_true,Bool.not_eq_true',List.isEmpty_eq_false_iff] at hc;obtain ⟨⟨⟨hr,hA0⟩,hD0⟩,hg⟩:=hc;have hA:(qA l).all Wpl.isL=true:=takeWhile_all _ _;obtain ⟨A,D,e,gA,gA0,gD,gD0,gC,gR,gB⟩:=rd_canon hr;have hsplit:∀ (P Q A D:List UInt8),P++Q=A++D→P.all Wpl.isL=true→A.all Wpl.isL=true→Q ≠ []→Wpl.isL (Q.headD 0)=false→D ≠ []→Wpl.isL (D.headD 0)=false→P=A∧Q=D:=by
   intro P;induction P with
   | nil =>
    intro Q A D e h1 h2 h3 h4 h5 h6;cases A with
    | nil=>exact ⟨rfl,e⟩
    | cons c t =>
     simp only [List.nil_append] at e;rw [e] at h4;simp only [List.all_cons,Bool.and_eq_true] at h2;rw [show (c::t++D).headD 0=c from rfl,h2.1] at h4;cases h4
   | cons p P ih =>
    intro Q A D e h1 h2 h3 h4 h5 h6;cases A with
    | nil =>
     simp only [List.nil_append] at e;rw [←e] at h6;simp only [List.all_cons,Bool.and_eq_true] at h1;rw [show (p::P++Q).headD 0=p from rfl,h1.1] at h6;cases h6
    | cons c t =>
     simp only [List.cons_append,List.cons.injEq] at e;simp only [List.all_cons,Bool.and_eq_true] at h1 h2;obtain ⟨i1,i2⟩:=ih Q t D e.2 h1.2 h2.2 h3 h4 h5 h6;exact ⟨by rw [e.1,i1],i2⟩
  have gnl:∀ x:UInt8,Wpl.isG x=true→Wpl.isL x=false:=fun x hx=>by
   have:=isG_iff.1 hx;cases hq:Wpl.isL x with
   | false=>rfl
   | true=>have:=isL_iff.1 hq;omega
  have gDh:Wpl.isG (D.headD 0)=true:=by
   cases D with
   | nil=>exact absurd rfl gD0
   | cons c t=>simp only [List.all_cons,Bool.and_eq_true] at gD;exact gD.1
  obtain ⟨eA,eD⟩:=hsplit _ _ _ _ e hA gA hD0 (gnl _ hg) gD0 (gnl _ gDh);have hDa:(qD l).all Wpl.isG=true:=by rw [eD];exact gD
  obtain ⟨f1,f2,f3,f4,f5,f6,-⟩:=word_forms hback hA hA0 hDa hD0;rw [hq];unfold rw1;have hrf:rfOf l=⟨⟨#[]⟩,Wpl.rdR (qA l++qD l),Wpl.rdC (qA l++qD l),dol (qD0 l),dol l⟩:=by
   unfold rfOf;have f6':(if dol l then l.drop 1 else l).any (fun c=>c == 36)=dol (qD0 l):=f6;rw [f5,f6']
  have hcw:cw (rfOf l)=l:=by
   rw [hrf];unfold cw;simp only;rw [gC,gR,←eA,←eD];conv=>rhs;rw [hback]
   simp
  rw [f5,if_pos hr,if_pos hcw,hrf]
 ·have hq:qW l=none:=by unfold qW;rw [if_neg hc]
  rw [hq];unfold rw1;by_cases hr:Wpl.rdOk (undol l)=true
  ·rw [if_pos hr];by_cases hcw:cw (rfOf l)=l
   ·exfalso
    apply hc
    obtain ⟨A,D,e,gA,gA0,gD,gD0,gC,gR,gB⟩:=rd_canon hr;have hl:l=fx (dol l)++(A++(fx (rfOf l).fr++D)):=by
     conv=>lhs;rw [←hcw]
     unfold cw;show fx (dol l)++Wpl.colS (Wpl.rdC (undol l))++fx (rfOf l).fr++Lib.decDigits (Wpl.rdR (undol l)+1).toNat=_
     rw [gC,gR];simp
    obtain ⟨f1,f2,f3,f4,f5,f6,f7⟩:=word_forms hl gA gA0 gD gD0;rw [f2,f4,←f5,hr,f7];simp [gA0,gD0]
   ·rw [if_neg hcw]
  ·rw [if_neg hr]
end Go.Proofs.YtlggnpohhahdlaaGreatDoor
