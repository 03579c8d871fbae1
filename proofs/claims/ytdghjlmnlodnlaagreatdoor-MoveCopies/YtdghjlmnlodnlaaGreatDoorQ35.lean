/- TQLev, NPlainD, NPlainF, TQCellP, NWalkF, NWalkG. -/
import Derived.Test.YtdghjlmnlodnlaaGreatDoorQ34
set_option maxHeartbeats 3200000
set_option maxRecDepth 100000
namespace Go.Proofs.YtdghjlmnlodnlaaGreatDoor
open Go.RowKit Go.Shelf Tryz
set_option linter.unusedVariables false
variable {w w':World} {tn lo kp:Nat} {en E Bad:Int} {v:Value} {sub:List Wlx.TV->PR}
theorem zAn {t:Wlx.TV} {r:List Wlx.TV} (h:RS tn lo kp en w (t::r) E Bad):∃ (g len cap a:Nat),w.cell? ⟨kp,0,none⟩=some (.slice (some ⟨g,0,none⟩) len cap)/\w.cell? ⟨kp,1,none⟩=some (.int .i64 (a:Int))/\w.cell? ⟨kp,3,none⟩=some (.int .i64 E)/\(a:Int)<(len:Int)/\(a:Int)<=1024/\w.cell? ⟨g,a * 3,none⟩=some (.int .i64 t.k)/\w.cell? ⟨g,a * 3+1,none⟩=some (.string ⟨t.t.toArray⟩)/\w.cell? ⟨g,a * 3+2,none⟩=some (.int .i64 t.p):=by
 obtain ⟨av,cap,T,a,e,h2,h3,h4,h5,h6,h7,h8⟩:=h;have hlt:a<T.length:=by
  by_cases hlt:a<T.length
  ·exact hlt
  ·rw [List.drop_eq_nil_of_le (by omega)] at e;cases e
 have et:T[a]=t:=by
  rw [List.drop_eq_getElem_cons hlt] at e;exact (List.cons.inj e).1
 obtain ⟨g,rfl,hg,t0,t1,t2⟩:=h7 a hlt;rw [et] at t0 t1 t2;exact ⟨g,T.length,cap,a,h6.2.1 0 _ rfl,h6.2.1 1 _ rfl,h6.2.1 3 _ rfl,by omega,by omega,t0,t1,t2⟩
theorem zJG (h:RS tn lo kp en w [] E Bad):∃ (av:Option Addr) (len cap a:Nat),w.cell? ⟨kp,0,none⟩=some (.slice av len cap)/\w.cell? ⟨kp,1,none⟩=some (.int .i64 (a:Int))/\w.cell? ⟨kp,3,none⟩=some (.int .i64 E)/\¬ (a:Int)<(len:Int):=by
 obtain ⟨av,cap,T,a,e,h2,h3,h4,h5,h6,h7,h8⟩:=h;have hlt:¬ a<T.length:=by
  intro hlt;rw [List.drop_eq_getElem_cons hlt] at e;cases e
 exact ⟨av,T.length,cap,a,h6.2.1 0 _ rfl,h6.2.1 1 _ rfl,h6.2.1 3 _ rfl,by omega⟩
theorem zNP {ts:List Wlx.TV} (h:RS tn lo kp en w ts E Bad):w.cell? ⟨kp,3,none⟩=some (.int .i64 E):=by
 obtain ⟨av,cap,T,a,e,h2,h3,h4,h5,h6,h7,h8⟩:=h;exact h6.2.1 3 _ rfl
theorem zB4 {k o k2 o2 k3 o3:Nat} {v2 v3:Value} (hb:Below w.heap.size w w') (h:w.cell? ⟨k,o,none⟩=some v/\w.cell? ⟨k2,o2,none⟩=some v2/\w.cell? ⟨k3,o3,none⟩=some v3):w'.cell? ⟨k,o,none⟩=some v/\w'.cell? ⟨k2,o2,none⟩=some v2/\w'.cell? ⟨k3,o3,none⟩=some v3:=⟨zAD hb h.1,zAD hb h.2.1,zAD hb h.2.2⟩
theorem zCw {k:Int} {row:List Wt.Nd} {us:List Wlx.TV} (h:zB2 k us=none):more sub k us.length row us=.inl (row,us):=by
 cases us with
 | nil=>rfl
 | cons t r=>simp only [List.length_cons,more,h]
theorem zI0 (hsuf:∀ ts row r,sub ts=.inl (row,r)->r <:+ ts) {k:Int} {row:List Wt.Nd} {us r:List Wlx.TV} {oo:Int × List UInt8 × Int} (h:zB2 k us=some (oo,r)):more sub k us.length row us=match sub r with | .inr e=>.inr e | .inl (row2,r2)=>more sub k r2.length (opN (zAt oo.2.2) oo.1::(row++row2)) r2:=by
 have hl:=(zAq h).2;obtain ⟨n,hn⟩:∃ n,us.length=n+1:=⟨us.length - 1,by omega⟩
 rw [hn];simp only [more,h];cases hs:sub r with
 | inr e=>rfl
 | inl q =>
  obtain ⟨row2,r2⟩:=q;have:=(hsuf _ _ _ hs).length_le;exact zFz hsuf _ _ _ _ _ (by omega) (by omega)
theorem zB5 {B s:Nat} {L:List Wt.Nd} {row:Option Nat} (h:OwnN w B v L) (hlt:∀ g,v.ownBlock=some g->g<s) (hg:w.grownBy w' row) (hr:∀ b,row=some b->s<=b):OwnN w' B v L:=by
 refine World.ownsRow.kept h hg ?_;cases hv:v.ownBlock with
 | none=>exact Or.inl rfl
 | some g=>exact Or.inr λe=>by have:=hlt g hv;have:=hr g e.symm;omega
theorem zLB (k:Nat) (hk:k<5) (us:List Wlx.TV):(us=[]/\zB2 k us=none) \/ (∃ t r,us=t::r/\¬ t.k=5/\zB2 k us=none) \/ (∃ t r,us=t::r/\t.k=5/\oas t.t k=0/\zB2 k us=none) \/ (∃ t r o,us=t::r/\t.k=5/\oas t.t k=o.1/\¬ o.1=0/\zAt o.2.2=5/\zB2 k us=some (o,r)):=by
 cases us with
 | nil=>exact Or.inl ⟨rfl,rfl⟩
 | cons t r =>
  unfold zB2;simp only;by_cases h5:t.k=5
  ·rw [if_pos h5];cases ha:Wt.opAs t.t k with
   | none=>exact Or.inr (Or.inr (Or.inl ⟨t,r,rfl,h5,by unfold oas;rw [ha],rfl⟩))
   | some x =>
    have hm:=List.mem_of_find?_eq_some ha;have hp:=List.find?_some ha;simp only [Bool.and_eq_true,beq_iff_eq] at hp;have hne:∀ y ∈ Wt.opsT,¬ y.1=0:=by decide
    refine Or.inr (Or.inr (Or.inr ⟨t,r,x,rfl,h5,by unfold oas;rw [ha],hne x hm,?_,rfl⟩));unfold zAt;rw [hp.2,if_pos (by omega)]
  ·rw [if_neg h5];exact Or.inr (Or.inl ⟨t,r,rfl,h5,rfl⟩)
theorem zIZ (tn lo kp:Nat) (en:Int) (k:Nat) (hk:k<5) (sub:List Wlx.TV->PR) (n:Nat) (HL:QLv tn lo kp en (k+1) sub n) (hsuf:∀ ts row r,sub ts=.inl (row,r)->r <:+ ts) (hfit:∀ ts row r2,(∀ t ∈ ts,zAP t)->sub ts=.inl (row,r2)->zEk ts.length row r2):QLv tn lo kp en k (pbt sub k) n:=by
 intro ts w hn hok h;obtain ⟨hkl,hlo,h1024⟩:=h.lo;have hkw:kp<w.heap.size:=by omega
 have ek:((k+1:Nat):Int)=(k:Int)+1:=by omega
 have SL:=HL;unfold QLv at SL;simp only [ek] at SL;have hk5:((k:Int) == 5)=false:=by simp;omega
 have hki:(k:Int)<5:=by omega
 have S:=SL ts w hn hok h;have OPP:=λm w=>zPI k hk m w
 clear HL h ek;unfold pbt;cases hs:sub ts with
 | inr q =>
  obtain ⟨c,p⟩:=q;rw [hs] at S;clear hfit hs hsuf SL OPP;simp only;go_enter func40,ntmps40;go_wp2_with fail
  refine S.mono ?_;rintro e w1 ⟨hg,hc,v,row,ts2,rfl,own,hl,hR⟩;have c3:=zNP hR;have hcd:(c == 0)=false:=by simpa using hc
  clear S;go_wp2_with fail
  go_loopg [5] 0 (λgk x wr=>x=v/\gk=0/\w1=wr)
  case atStart=>exact ⟨rfl,rfl,rfl⟩
  case round =>
   obtain ⟨rfl,hgk,rfl⟩:=hrel;go_wp2_with fail
   go_quiet (fail)
   have hb9:Below w1.heap.size w1 (w1.drewN nq):=zAH (Below.refl _ _) nq;go_wp2;go_ret;exact ⟨zAB hg (zAC hb9 _),hc,_,row,ts2,rfl,own.below hb9,hl,hR.below hb9⟩
 | inl q =>
  obtain ⟨row0,rest⟩:=q;rw [hs] at S;obtain ⟨-,hf⟩:=hfit ts row0 rest hok hs;have hok0:∀ t ∈ rest,zAP t:=λt ht=>hok t ((hsuf ts row0 rest hs).subset ht)
  clear hs hok;simp only;obtain ⟨R0,hR0⟩:∃ q:PR,q=more sub k rest.length row0 rest:=⟨_,rfl⟩
  rw [<-hR0];have HQ0:Hid (R0=more sub k rest.length row0 rest):=hR0;clear hR0;go_enter func40,ntmps40;go_wp2_with fail
  refine S.mono ?_;rintro e w1 ⟨hg1,v1,rfl,own1,hR1⟩;clear S;go_wp2_with fail
  go_loopg [5] (rest.length+1) (λgk x wr=>Hid (w.grownBy wr (some kp))/\((∃ (row:List Wt.Nd) (us:List Wlx.TV),gk=us.length+1/\row.length+us.length<=ts.length/\Hid (∀ t ∈ us,zAP t)/\Hid (R0=more sub k us.length row us)/\Hid (OwnN wr w.heap.size x row)/\Hid (RS tn lo kp en wr us 0 0)) \/ (∃ (c p:Int) (row:List Wt.Nd) (us:List Wlx.TV),gk=0/\¬ c=0/\row.length<=ts.length+1/\Hid (R0=.inr (c,p))/\Hid (OwnN wr w.heap.size x row)/\Hid (RS tn lo kp en wr us c p))))
  case atStart=>exact ⟨hg1,Or.inl ⟨row0,rest,rfl,hf,hok0,HQ0,own1,hR1⟩⟩
  case round =>
   clear HQ0 own1 hR1 hg1 hf hok0;obtain ⟨HG,⟨row,us,hgk,hf,HK,HQ,HO,HR⟩ | ⟨c,p,row,us,hgk,hc,hl,HQ,HO,HR⟩⟩:=hrel
   ·have HW:Hid (w.heap.size<=wr.heap.size):=HG.out.size;rcases zLB k hk us with ⟨rfl,ht⟩ | ⟨t,r,rfl,h5,ht⟩ | ⟨t,r,rfl,h5,ho,ht⟩ | ⟨t,r,oo,rfl,h5,ho,ho0,hkd,ht⟩
    ·obtain ⟨av,len,cap,a,c0,c1,c3,hal⟩:=zJG HR.out;have hald:decide (a<len)=false:=by simp;omega
     have HQ2:Hid (R0=.inl (row,[])):=by show _=_;rw [HQ.out,zCw ht]
     clear HQ ht;go_wp2_with fail
     go_quiet (fail)
     have hb9:Below wr.heap.size wr (wr.drewN nq):=zAH (Below.refl _ _) nq;go_wp2;go_ret;rw [HQ2.out];exact ⟨zAB HG.out (zAC hb9 _),_,rfl,HO.out.below hb9,HR.out.below hb9⟩
    ·obtain ⟨g,len,cap,a,c0,c1,c3,hal,ha,t0,t1,t2⟩:=zAn HR.out;have h5d:(t.k == 5)=false:=by simpa using h5
     have HQ2:Hid (R0=.inl (row,t::r)):=by show _=_;rw [HQ.out,zCw ht]
     clear HQ ht;go_wp2_with fail
     go_quiet (fail)
     have hb9:Below wr.heap.size wr (wr.drewN nq):=zAH (Below.refl _ _) nq;go_wp2;go_ret;rw [HQ2.out];exact ⟨zAB HG.out (zAC hb9 _),_,rfl,HO.out.below hb9,HR.out.below hb9⟩
    ·obtain ⟨g,len,cap,a,c0,c1,c3,hal,ha,t0,t1,t2⟩:=zAn HR.out;rw [h5] at t0;have OP:=λw=>OPP t.t w
     rw [ho] at OP;have HQ2:Hid (R0=.inl (row,t::r)):=by show _=_;rw [HQ.out,zCw ht]
     clear HQ ht OPP;generalize (⟨t.t.toArray⟩:ByteArray)=tt at *;go_wp2_with fail
     go_quiet (fail)
     have hb9:Below wr.heap.size wr (wr.drewN nq):=zAH (Below.refl _ _) nq;have hS:(wr.drewN nq).cell? ⟨kp,0,none⟩=some (.slice (some ⟨g,0,none⟩) len cap)/\(wr.drewN nq).cell? ⟨kp,1,none⟩=some (.int .i64 (a:Int))/\(wr.drewN nq).cell? ⟨g,a * 3+1,none⟩=some (.string tt):=⟨zAD hb9 c0,zAD hb9 c1,zAD hb9 t1⟩
     have hB:=hb9;have hHO:=HO.out.below hb9;generalize wr.drewN nq=W9 at *;clear c0 c1 c3 t0 t1 t2;go_wp2_with fail
     go_region_held3 (λW=>W.cell? ⟨kp,0,none⟩=some (.slice (some ⟨g,0,none⟩) len cap)/\W.cell? ⟨kp,1,none⟩=some (.int .i64 (a:Int))/\W.cell? ⟨g,a * 3+1,none⟩=some (.string tt))
      (with_reducible first | exact hS | assumption | exact zB4 (Below.refl _ _).drew hS | exact zB4 hb (by assumption))
      (first | (go_at_call 62;refine (OP _).mono ?_;rintro e w4 ⟨rfl,hb⟩;(with_reducible first | replace hB:=zAA hB.drew hb | replace hB:=zAA hB hb)))
     all_goals
      go_wp2;go_ret;rw [HQ2.out];exact ⟨zAB HG.out (zAC hB _),_,rfl,HO.out.below hB,HR.out.below hB⟩
    ·obtain ⟨g,len,cap,a,c0,c1,c3,hal,ha,t0,t1,t2⟩:=zAn HR.out;rw [h5] at t0;have OP:=λw=>OPP t.t w
     rw [ho] at OP;have HC1:Hid (wr.cell? ⟨kp,1,none⟩=some (.int .i64 (a:Int))):=c1;have hob:(oo.1 == 0)=false:=by simpa using ho0
     have HM:Hid (more sub k (t::r).length row (t::r)=match sub r with | .inr e=>.inr e | .inl (row2,r2)=>more sub k r2.length (opN (zAt oo.2.2) oo.1::(row++row2)) r2):=zI0 hsuf ht;have hrn:r.length<=n:=by simp only [List.length_cons] at hf;omega
     have hf2:row.length+r.length+1<=ts.length:=by simp only [List.length_cons] at hf;omega
     have hokr:∀ x ∈ r,zAP x:=λx hx=>HK.out x (List.mem_cons_of_mem _ hx)
     clear ht OPP HK;generalize (⟨t.t.toArray⟩:ByteArray)=tt at *;go_wp2_with fail
     go_quiet (fail)
     have hb9:Below wr.heap.size wr (wr.drewN nq):=zAH (Below.refl _ _) nq;have hS:(wr.drewN nq).cell? ⟨kp,0,none⟩=some (.slice (some ⟨g,0,none⟩) len cap)/\(wr.drewN nq).cell? ⟨kp,1,none⟩=some (.int .i64 (a:Int))/\(wr.drewN nq).cell? ⟨g,a * 3+1,none⟩=some (.string tt):=⟨zAD hb9 c0,zAD hb9 c1,zAD hb9 t1⟩
     have hB:=hb9;generalize wr.drewN nq=W9 at *;clear c0 c1 c3 t0 t1 t2 hb9;generalize oo.1=ov at *;rw [hkd] at HM;go_wp2_with fail
     go_region_held3 (λW=>W.cell? ⟨kp,0,none⟩=some (.slice (some ⟨g,0,none⟩) len cap)/\W.cell? ⟨kp,1,none⟩=some (.int .i64 (a:Int))/\W.cell? ⟨g,a * 3+1,none⟩=some (.string tt))
      (with_reducible first | exact hS | assumption | exact zB4 (Below.refl _ _).drew hS | exact zB4 hb (by assumption))
      (first | (go_at_call 62;refine (OP _).mono ?_;rintro e w4 ⟨rfl,hb⟩;(with_reducible first | replace hB:=zAA hB.drew hb | replace hB:=zAA hB hb)))
     all_goals
      have hRq:=HR.out.below hB;have hGq:w.grownBy w4 (some kp):=zAB HG.out (zAC hB _);have hOq:=HO.out.below hB;obtain ⟨a2,ha2,c1,z1,hR,hG⟩:=zAh hRq;have ea:a2=a:=by
       have e2:=zAD hB HC1.out;rw [c1] at e2;have e3:(a2:Int)=(a:Int):=by simpa using e2
       omega
      rw [ea] at c1 hR hG;clear ea ha2;have HRW:Hid (RS tn lo kp en (w4.setCell ⟨kp,1,none⟩ (.int .i64 ((a:Int)+1))) r 0 0):=hR;have HGW:Hid (w.grownBy (w4.setCell ⟨kp,1,none⟩ (.int .i64 ((a:Int)+1))) (some kp)):=zAB hGq hG;have HOW:Hid (OwnN (w4.setCell ⟨kp,1,none⟩ (.int .i64 ((a:Int)+1))) w.heap.size u5 row):=zAb hOq hG hkw;clear hRq hGq hOq hR hG HR HG HO hB OP;go_upto_region 8 with fail
      obtain ⟨W,hW⟩:∃ W,w4.setCell ⟨kp,1,none⟩ (.int .i64 ((a:Int)+1))=W:=⟨_,rfl⟩
      rw [hW] at HRW HGW HOW ⊢;have hRW:=HRW.out;have hGW:=HGW.out;have hOW:=HOW.out;have hsW:=hGW.size;clear hW HRW HGW HOW c1 z1;have S2:=SL r W hrn hokr hRW;go_wp2_with fail
      cases hs2:sub r with
      | inl q =>
       obtain ⟨row2,r2⟩:=q;rw [hs2] at S2;refine S2.mono ?_;rintro e w2 ⟨hg2,vb,rfl,ownb,hRb⟩;have hG2:w.grownBy w2 (some kp):=zAB hGW hg2;have hO2:OwnN w2 w.heap.size u5 row:=zAb hOW hg2 hkw;have l5:=hO2.lt;have lb:=ownb.lt;have hs2z:=hG2.size;have hft:=(hfit r row2 r2 hokr hs2).2;have hsf:=hsuf r row2 r2 hs2;clear S2 hg2 hGW hOW hRW;go_wp2_with (first
        | ((with_reducible refine zAw ?_ (.const (.int .i64 5)) (.tmp 75) ?_ 5 ov ?_ ?_ ?_);rfl;rfl;rfl;rfl)
        | ((with_reducible refine zAR ?_ (.tmp 76) ?_ (opN 5 ov) ?_ ?_);rfl;rfl;rfl)
        | (at_builtin;refine zAM (by rfl) (.tmp 74) (.tmp 77) (by rfl) _ w2.heap.size (by simp only [World.size_alloc];omega) _ [] (by rfl) (World.ownsRow_nil _ _ _ _) _ _ [opN 5 ov] (by rfl) (zAf w2 (opN 5 ov)) (λ_=>by simp) ?_))
       intro va wa rowa owna hga hra hva;have hGa:w.grownBy wa (some kp):=zAO (zAB hG2 (World.grownBy_alloc _ _ _)) hga (λb e=>Nat.le_trans hs2z (hra b e));have hRa:=(hRb.row (World.grownBy_alloc w2 _ none) (by simp)).row hga (λb e=>Nat.le_trans (Nat.le_trans hlo hs2z) (hra b e));have hsa:w2.heap.size<=wa.heap.size:=Nat.le_trans (by simp) hga.size;have hO5:OwnN wa w.heap.size u5 row:=zB5 (zBu hO2 (World.grownBy_alloc w2 _ none) (by simp)) (λg e=>(l5 g e).2) hga hra;have hOb:OwnN wa W.heap.size vb row2:=zB5 (zBu ownb (World.grownBy_alloc w2 _ none) (by simp)) (λg e=>(lb g e).2) hga hra;clear hga hra hva hO2 ownb hRb hG2;go_wp2_with (at_builtin;refine zAM (by rfl) (.tmp 79) (.tmp 80) (by rfl) wa w2.heap.size hsa va [opN 5 ov] (by rfl) owna u5 _ row (by rfl) hO5 (λ_=>by simp only [List.length_singleton];omega) ?_)
       intro vc wc rowc ownc hgc hrc _;have hGc:w.grownBy wc (some kp):=zAO hGa hgc (λb e=>Nat.le_trans hs2z (hrc b e));have hRc:=hRa.row hgc (λb e=>Nat.le_trans (Nat.le_trans hlo hs2z) (hrc b e));have hsc:w2.heap.size<=wc.heap.size:=Nat.le_trans hsa hgc.size;have hOc:OwnN wc W.heap.size vb row2:=zB5 hOb (λg e=>(lb g e).2) hgc hrc;clear hgc hrc owna hO5 hOb hGa hRa;go_wp2_with (at_builtin;refine zAM (by rfl) (.tmp 82) (.tmp 83) (by rfl) wc w2.heap.size hsc vc ([opN 5 ov]++row) (by rfl) ownc vb _ row2 (by rfl) hOc (λ_=>by simp only [List.length_append,List.length_singleton];omega) ?_)
       intro vd wd rowd ownd hgd hrd _;have HGd:Hid (w.grownBy wd (some kp)):=zAO hGc hgd (λb e=>Nat.le_trans hs2z (hrd b e));have hRd:=hRc.row hgd (λb e=>Nat.le_trans (Nat.le_trans hlo hs2z) (hrd b e));have HOd:Hid (OwnN wd w.heap.size vd (opN 5 ov::(row++row2))):=by
        have:=zBf ownd hs2z;first | exact this | (rw [List.append_assoc] at this;exact this)
       have HQ2:Hid (R0=more sub k r2.length (opN 5 ov::(row++row2)) r2):=by show _=_;rw [HQ.out,HM.out,hs2]
       have HRd:Hid (RS tn lo kp en wd r2 0 0):=hRd;have HKd:Hid (∀ x ∈ r2,zAP x):=λx hx=>hokr x (hsf.subset hx)
       clear hgd hrd ownc hOc hGc hRc hRd ownd HQ HM hs2;go_wp2_with fail
       go_roundg (r2.length+1)
       case rel=>exact ⟨HGd,Or.inl ⟨_,r2,rfl,by simp only [List.length_cons,List.length_append];omega,HKd,HQ2,HOd,HRd⟩⟩
       case measure=>simp only [List.length_cons] at hgk;omega
      | inr q =>
       obtain ⟨c,p⟩:=q;rw [hs2] at S2;refine S2.mono ?_;rintro e w2 ⟨hg2,hc,vb,row2,ts2,rfl,ownb,hrw,hRb⟩;have hG2:w.grownBy w2 (some kp):=zAB hGW hg2;have hO2:OwnN w2 w.heap.size u5 row:=zAb hOW hg2 hkw;have l5:=hO2.lt;have lb:=ownb.lt;have hs2z:=hG2.size;clear S2 hg2 hGW hOW hRW;go_wp2_with (first
        | ((with_reducible refine zAw ?_ (.const (.int .i64 5)) (.tmp 75) ?_ 5 ov ?_ ?_ ?_);rfl;rfl;rfl;rfl)
        | ((with_reducible refine zAR ?_ (.tmp 76) ?_ (opN 5 ov) ?_ ?_);rfl;rfl;rfl)
        | (at_builtin;refine zAM (by rfl) (.tmp 74) (.tmp 77) (by rfl) _ w2.heap.size (by simp only [World.size_alloc];omega) _ [] (by rfl) (World.ownsRow_nil _ _ _ _) _ _ [opN 5 ov] (by rfl) (zAf w2 (opN 5 ov)) (λ_=>by simp) ?_))
       intro va wa rowa owna hga hra hva;have hGa:w.grownBy wa (some kp):=zAO (zAB hG2 (World.grownBy_alloc _ _ _)) hga (λb e=>Nat.le_trans hs2z (hra b e));have hRa:=(hRb.row (World.grownBy_alloc w2 _ none) (by simp)).row hga (λb e=>Nat.le_trans (Nat.le_trans hlo hs2z) (hra b e));have hsa:w2.heap.size<=wa.heap.size:=Nat.le_trans (by simp) hga.size;have hO5:OwnN wa w.heap.size u5 row:=zB5 (zBu hO2 (World.grownBy_alloc w2 _ none) (by simp)) (λg e=>(l5 g e).2) hga hra;have hOb:OwnN wa W.heap.size vb row2:=zB5 (zBu ownb (World.grownBy_alloc w2 _ none) (by simp)) (λg e=>(lb g e).2) hga hra;clear hga hra hva hO2 ownb hRb hG2;go_wp2_with (at_builtin;refine zAM (by rfl) (.tmp 79) (.tmp 80) (by rfl) wa w2.heap.size hsa va [opN 5 ov] (by rfl) owna u5 _ row (by rfl) hO5 (λ_=>by simp only [List.length_singleton];omega) ?_)
       intro vc wc rowc ownc hgc hrc _;have hGc:w.grownBy wc (some kp):=zAO hGa hgc (λb e=>Nat.le_trans hs2z (hrc b e));have hRc:=hRa.row hgc (λb e=>Nat.le_trans (Nat.le_trans hlo hs2z) (hrc b e));have hsc:w2.heap.size<=wc.heap.size:=Nat.le_trans hsa hgc.size;have hOc:OwnN wc W.heap.size vb row2:=zB5 hOb (λg e=>(lb g e).2) hgc hrc;clear hgc hrc owna hO5 hOb hGa hRa;go_wp2_with (at_builtin;refine zAM (by rfl) (.tmp 82) (.tmp 83) (by rfl) wc w2.heap.size hsc vc ([opN 5 ov]++row) (by rfl) ownc vb _ row2 (by rfl) hOc (λ_=>by simp only [List.length_append,List.length_singleton];omega) ?_)
       intro vd wd rowd ownd hgd hrd _;have HGd:Hid (w.grownBy wd (some kp)):=zAO hGc hgd (λb e=>Nat.le_trans hs2z (hrd b e));have hRd:=hRc.row hgd (λb e=>Nat.le_trans (Nat.le_trans hlo hs2z) (hrd b e));have HOd:Hid (OwnN wd w.heap.size vd (opN 5 ov::(row++row2))):=by
        have:=zBf ownd hs2z;first | exact this | (rw [List.append_assoc] at this;exact this)
       have HQ2:Hid (R0=.inr (c,p)):=by show _=_;rw [HQ.out,HM.out,hs2]
       have HRd:Hid (RS tn lo kp en wd ts2 c p):=hRd;clear hgd hrd ownc hOc hGc hRc hRd ownd HQ HM hs2;go_wp2_with fail
       go_roundg 0
       case rel=>exact ⟨HGd,Or.inr ⟨c,p,_,ts2,rfl,hc,by simp only [List.length_cons,List.length_append];omega,HQ2,HOd,HRd⟩⟩
       case measure=>simp only [List.length_cons] at hgk;omega
   ·have c3:=zNP HR.out;have hcd:(c == 0)=false:=by simpa using hc
    go_wp2_with fail
    go_quiet (fail)
    have hb9:Below wr.heap.size wr (wr.drewN nq):=zAH (Below.refl _ _) nq;go_wp2;go_ret;rw [HQ.out];exact ⟨zAB HG.out (zAC hb9 _),hc,_,row,us,rfl,HO.out.below hb9,hl,HR.out.below hb9⟩
end Go.Proofs.YtdghjlmnlodnlaaGreatDoor
namespace Wpl
theorem fv_snoc (k:Nat) (l:List UInt8) (c:UInt8):fv k (l++[c])=fv k l * 10+(c.toNat - 48):=by unfold fv;rw [List.foldl_append];rfl
theorem zFL {D:List UInt8} {j:Nat} {d:UInt8} (h:D[j]? = some d):D.take (j+1)=D.take j++[d]:=by
 obtain ⟨hj,e⟩:=List.getElem?_eq_some_iff.1 h;rw [List.take_succ_eq_append_getElem hj,e]
theorem fv_take {D:List UInt8} {j:Nat} {d:UInt8} (h:D[j]? = some d):fv 0 (D.take (j+1))=fv 0 (D.take j) * 10+(d.toNat - 48):=by
 rw [zFL h,fv_snoc]
theorem all_take {D:List UInt8} {j:Nat} {d:UInt8} (h:D[j]? = some d):allG (D.take (j+1))=(allG (D.take j) && isG d):=by
 rw [zFL h];simp [allG]
theorem all_not {D:List UInt8} {j:Nat} {d:UInt8} (h:D[j]? = some d) (hd:isG d=false):allG D=false:=by
 unfold allG;rw [List.all_eq_false];exact ⟨d,List.mem_of_getElem? h,by simp [hd]⟩
theorem zSJ {k:Nat}:∀ (l:List UInt8),allG l=true->fv k l<(k+1) * 10 ^ l.length:=by
 intro l;induction l generalizing k with
 | nil=>simp [fv]
 | cons c t ih =>
  intro h;simp only [allG,List.all_cons,Bool.and_eq_true] at h;have hc:=h.1;simp only [isG,decide_eq_true_eq] at hc;have:=ih (k:=k * 10+(c.toNat - 48)) (by simpa [allG] using h.2);rw [fv_cons];have h2:(k * 10+(c.toNat - 48)+1) * 10 ^ t.length<=((k+1) * 10) * 10 ^ t.length:=Nat.mul_le_mul_right _ (by omega);rw [List.length_cons,Nat.pow_succ,Nat.mul_comm (10 ^ t.length) 10,<-Nat.mul_assoc];omega
theorem fv_five {D:List UInt8} {j:Nat} (hj:j<=5) (h:allG (D.take j)=true):fv 0 (D.take j)<100000:=by
 have:=zSJ (k:=0) _ h;have h2:(D.take j).length<=5:=by have:=List.length_take_le j D;omega
 have h3:10 ^ (D.take j).length<=10 ^ 5:=Nat.pow_le_pow_right (by omega) h2;omega
end Wpl
namespace Wpl
theorem dd_le {u:Nat} (h:u<10):Go.Lib.decDigits u=[UInt8.ofNat (48+u)]:=by
 unfold Go.Lib.decDigits;rw [dif_pos h]
theorem dd_gt {u:Nat} (h:¬ u<10):Go.Lib.decDigits u=Go.Lib.decDigits (u / 10)++[UInt8.ofNat (48+u % 10)]:=by
 conv=>lhs;unfold Go.Lib.decDigits
 rw [dif_neg h]
end Wpl
namespace Go.Proofs.YtdghjlmnlodnlaaGreatDoor
open Go.RowKit Go.Shelf Tryz
set_option linter.unusedVariables false
variable {c a:UInt8} {l s:List UInt8} {i:Nat}
theorem isG_iff:Wpl.isG c=true ↔ 48<=c.toNat/\c.toNat<=57:=by simp [Wpl.isG]
theorem isL_iff:Wpl.isL c=true ↔ 65<=c.toNat/\c.toNat<=90:=by simp [Wpl.isL]
theorem zMt:∀ (n:Nat) (D:List UInt8),D.length=n+1->Wpl.allG D=true->¬ D.head? = some 48->Lib.decDigits (Wpl.fv 0 D)=D:=by
 intro n;induction n with
 | zero =>
  intro D hl hg hh;match D,hl with
  | [d],_ =>
   have h:=isG_iff.1 (by simpa [Wpl.allG] using hg);have e:Wpl.fv 0 [d]=d.toNat - 48:=by simp [Wpl.fv]
   rw [e,Wpl.dd_le (by omega)];congr 1
   rw [show 48+(d.toNat - 48)=d.toNat by omega];exact UInt8.ofNat_toNat
 | succ n ih =>
  intro D hl hg hh;obtain ⟨D1,d,rfl⟩:∃ D1 d,D=D1++[d]:=by
   have hne:D ≠ []:=by intro e;rw [e] at hl;simp at hl
   exact ⟨D.dropLast,D.getLast hne,(List.dropLast_concat_getLast hne).symm⟩
  have hl1:D1.length=n+1:=by simpa using hl
  have hg1:Wpl.allG D1=true/\Wpl.isG d=true:=by simpa [Wpl.allG] using hg
  have hh1:¬ D1.head? = some 48:=by
   cases D1 with
   | nil=>simp at hl1
   | cons c t=>simpa using hh
  have hd:=isG_iff.1 hg1.2;have hv:1<=Wpl.fv 0 D1:=by
   cases D1 with
   | nil=>simp at hl1
   | cons c t =>
    have hc:=isG_iff.1 (by have:=hg1.1;simp only [Wpl.allG,List.all_cons,Bool.and_eq_true] at this;exact this.1);have hc0:c ≠ 48:=by simpa using hh1
    have hcn:c.toNat ≠ 48:=λe=>hc0 (UInt8.toNat_inj.1 (by rw [e];rfl))
    rw [Wpl.fv_cons];have:=Wpl.fv_ge t (0 * 10+(c.toNat - 48));have hp:1<=10 ^ t.length:=Nat.one_le_pow _ _ (by omega);have:1 * 1<=(0 * 10+(c.toNat - 48)) * 10 ^ t.length:=Nat.mul_le_mul (by omega) hp;omega
  rw [Wpl.fv_snoc,Wpl.dd_gt (by omega),show (Wpl.fv 0 D1 * 10+(d.toNat - 48)) / 10=Wpl.fv 0 D1 by omega,ih D1 hl1 hg1.1 hh1];congr 2
  rw [show 48+(Wpl.fv 0 D1 * 10+(d.toNat - 48)) % 10=d.toNat by omega];exact UInt8.ofNat_toNat
theorem zL3 {t:List UInt8} (h:Wpl.dgOk t=true):Wpl.allG t=true/\t ≠ []/\Lib.decDigits (Wpl.rr t).1=t/\1<=(Wpl.rr t).1/\(Wpl.rr t).1<=65536:=by
 have h':=of_decide_eq_true h;have hne:t ≠ []:=by intro e;rw [e] at h;rw [Wpl.dg_nil] at h;cases h
 have hh:¬ t.head? = some 48:=by
  intro e;have:Wpl.rr t=(0,t):=by unfold Wpl.rr;rw [if_pos e]
  rw [this] at h';omega
 have er:Wpl.rr t=Wpl.rd 0 t:=by unfold Wpl.rr;rw [if_neg hh]
 rw [er] at h' ⊢;obtain ⟨g,v⟩:=Wpl.rd_inv t 0 h'.1;obtain ⟨n,hn⟩:∃ n,t.length=n+1:=⟨t.length - 1,by cases t;exact absurd rfl hne;simp⟩
 exact ⟨g,hne,by rw [v];exact zMt n t hn g hh,h'.2.1,h'.2.2⟩
theorem zCY (h:Wpl.isL a=true):UInt8.ofNat (65+(Wpl.vl a - 1))=a:=by
 have:=isL_iff.1 h;unfold Wpl.vl;rw [show 65+(a.toNat - 65+1 - 1)=a.toNat by omega];exact UInt8.ofNat_toNat
theorem vl_bd (h:Wpl.isL a=true):1<=Wpl.vl a/\Wpl.vl a<=26:=by
 have:=isL_iff.1 h;unfold Wpl.vl;omega
theorem zH3 (h:Wpl.rdOk s=true):∃ A D,s=A++D/\A.all Wpl.isL=true/\A ≠ []/\D.all Wpl.isG=true/\D ≠ []/\Wpl.colS (Wpl.rdC s)=A/\Lib.decDigits (Wpl.rdR s+1).toNat=D/\(0<=Wpl.rdC s/\Wpl.rdC s<256):=by
 have key:∀ (A D:List UInt8) (k:Nat),s=A++D->A.all Wpl.isL=true->A ≠ []->Wpl.dgOk D=true->Wpl.rc 0 s=(k,D)->1<=k->k<=256->Wpl.colT (k - 1)=A->∃ A D,s=A++D/\A.all Wpl.isL=true/\A ≠ []/\D.all Wpl.isG=true/\D ≠ []/\Wpl.colS (Wpl.rdC s)=A/\Lib.decDigits (Wpl.rdR s+1).toNat=D/\(0<=Wpl.rdC s/\Wpl.rdC s<256):=by
  intro A D k e hA hA0 hD hr k1 k2 hc;obtain ⟨g1,g2,g3,g4,g5⟩:=zL3 hD;have eC:Wpl.rdC s=((k - 1:Nat):Int):=by unfold Wpl.rdC;rw [if_pos h,hr];simp only;omega
  have eR:Wpl.rdR s+1=((Wpl.rr D).1:Int):=by unfold Wpl.rdR;rw [if_pos h,hr];simp only;omega
  refine ⟨A,D,e,hA,hA0,g1,g2,?_,?_,by omega,by omega⟩
  ·rw [eC];unfold Wpl.colS;rw [Wpl.inB_iff.2 ⟨by omega,by omega⟩];simpa using hc
  ·rw [eR,Int.toNat_natCast];exact g3
 cases s with
 | nil=>rw [Wpl.rd_none] at h;cases h
 | cons a t =>
  cases ha:Wpl.isL a with
  | false=>rw [Wpl.rd_no t ha] at h;cases h
  | true =>
   have va:=vl_bd ha;cases t with
   | nil =>
    have:=(Wpl.rd_one ha (t:=[]) rfl).1;rw [this,Wpl.dg_nil] at h;cases h
   | cons b u =>
    cases hb:Wpl.isL b with
    | false =>
     have hn:Wpl.noL (b::u)=true:=by simp [Wpl.noL,hb]
     obtain ⟨k1,k2⟩:=Wpl.rd_one ha hn;exact key [a] (b::u) _ rfl (by simp [ha]) (by simp) (by rw [<-k1];exact h) k2 va.1 (by omega) (by unfold Wpl.colT;rw [if_pos (by omega),zCY ha])
    | true =>
     have vb:=vl_bd hb;cases hn:Wpl.noL u with
     | false =>
      cases u with
      | nil=>cases hn
      | cons c v =>
       have hc:Wpl.isL c=true:=by simpa [Wpl.noL] using hn
       rw [Wpl.rd_three v ha hb hc] at h;cases h
     | true =>
      obtain ⟨k1,k2⟩:=Wpl.rd_two ha hb hn;rw [k1,Bool.and_eq_true,decide_eq_true_eq] at h;refine key [a,b] u _ rfl (by simp [ha,hb]) (by simp) h.2 k2 (by omega) h.1 ?_;unfold Wpl.colT;have e1:(Wpl.vl a * 26+Wpl.vl b - 1) / 26 - 1=Wpl.vl a - 1:=by omega
      have e2:(Wpl.vl a * 26+Wpl.vl b - 1) % 26=Wpl.vl b - 1:=by omega
      rw [if_neg (by omega),e1,e2,zCY ha,zCY hb]
def qS (l:List UInt8):List UInt8:=if dol l then l.drop 1 else l
def qA (l:List UInt8):List UInt8:=(qS l).takeWhile Wpl.isL
def qD0 (l:List UInt8):List UInt8:=(qS l).dropWhile Wpl.isL
def qD (l:List UInt8):List UInt8:=qS (qD0 l)
def qW (l:List UInt8):Option Wt.Rf:=if Wpl.rdOk (qA l++qD l) && !(qA l).isEmpty && !(qD l).isEmpty && Wpl.isG ((qD l).headD 0) then some ⟨⟨#[]⟩,Wpl.rdR (qA l++qD l),Wpl.rdC (qA l++qD l),dol (qD0 l),dol l⟩ else none
theorem zNB (b:Bool) (A:List UInt8) (h:A ≠ []) (hA:A.headD 0 ≠ 36):dol (fx b++A)=b/\qS (fx b++A)=A:=by
 cases b with
 | true=>exact ⟨rfl,rfl⟩
 | false =>
  cases A with
  | nil=>exact absurd rfl h
  | cons c t =>
   have:dol (fx false++c::t)=false:=by
    show (c == 36)=false
    simpa using hA
   exact ⟨this,by unfold qS;rw [this];rfl⟩
theorem zEX {A D:List UInt8} {fc fr:Bool} (hl:l=fx fc++(A++(fx fr++D))) (hA:A.all Wpl.isL=true) (hA0:A ≠ []) (hD:D.all Wpl.isG=true) (hD0:D ≠ []) :
  dol l=fc/\qA l=A/\dol (qD0 l)=fr/\qD l=D/\zBz l=A++D/\(qS l).any (λc=>c == 36)=fr/\Wpl.isG (D.headD 0)=true:=by
 have nL:∀ x:UInt8,Wpl.isL x=true->(x == 36)=false:=λx hx=>by
  have:=isL_iff.1 hx;simp only [beq_eq_false_iff_ne];rintro rfl;simp at this
 have nG:∀ x:UInt8,Wpl.isG x=true->(x == 36)=false/\Wpl.isL x=false:=λx hx=>by
  have:=isG_iff.1 hx;refine ⟨by simp only [beq_eq_false_iff_ne];rintro rfl;simp at this,?_⟩;cases hq:Wpl.isL x with
  | false=>rfl
  | true=>have:=isL_iff.1 hq;omega
 have hAh:Wpl.isL (A.headD 0)=true:=by
  cases A with
  | nil=>exact absurd rfl hA0
  | cons c t=>simp only [List.all_cons,Bool.and_eq_true] at hA;exact hA.1
 have hDh:Wpl.isG (D.headD 0)=true:=by
  cases D with
  | nil=>exact absurd rfl hD0
  | cons c t=>simp only [List.all_cons,Bool.and_eq_true] at hD;exact hD.1
 obtain ⟨d1,d2⟩:=zNB fc (A++(fx fr++D)) (by simp [hA0]) (by
  cases A with
  | nil=>exact absurd rfl hA0
  | cons c t=>have:=nL _ hAh;simpa using this)
 obtain ⟨e1,e2⟩:=zNB fr D hD0 (by have:=(nG _ hDh).1;simpa using this);rw [<-hl] at d1 d2;have hstop:∀ (x:UInt8) (r:List UInt8),fx fr++D=x::r->Wpl.isL x=false:=by
  intro x r hx;cases fr with
  | true =>
   have:x=36:=by have:=(List.cons.inj hx).1;exact this.symm
   rw [this];rfl
  | false =>
   have hx':D=x::r:=hx;rw [hx'] at hDh;exact (nG _ hDh).2
 have tA:∀ (A:List UInt8),A.all Wpl.isL=true->(A++(fx fr++D)).takeWhile Wpl.isL=A/\(A++(fx fr++D)).dropWhile Wpl.isL=fx fr++D:=by
  intro A hA;induction A with
  | nil =>
   cases hq:fx fr++D with
   | nil=>exact ⟨rfl,rfl⟩
   | cons x r =>
    have:=hstop x r hq;simp [this]
  | cons c t ih =>
   simp only [List.all_cons,Bool.and_eq_true] at hA;obtain ⟨i1,i2⟩:=ih hA.2;simp only [List.cons_append,List.takeWhile_cons,List.dropWhile_cons,hA.1,if_true,i1,i2,and_self]
 obtain ⟨t1,t2⟩:=tA A hA;have u1:A.filter (λc=>!(c == 36))=A:=List.filter_eq_self.2 λx hx=>by rw [nL x (List.all_eq_true.1 hA x hx)];rfl
 have u2:D.filter (λc=>!(c == 36))=D:=List.filter_eq_self.2 λx hx=>by rw [(nG x (List.all_eq_true.1 hD x hx)).1];rfl
 have u3:∀ b,(fx b).filter (λc=>!(c == 36))=[]:=λb=>by cases b <;> rfl
 have a1:A.any (λc=>c == 36)=false:=by
  rw [List.any_eq_false];intro x hx;rw [nL x (List.all_eq_true.1 hA x hx)];simp
 have a2:D.any (λc=>c == 36)=false:=by
  rw [List.any_eq_false];intro x hx;rw [(nG x (List.all_eq_true.1 hD x hx)).1];simp
 refine ⟨d1,by unfold qA;rw [d2,t1],by unfold qD0;rw [d2,t2,e1],by unfold qD qD0;rw [d2,t2,e2],?_,?_,hDh⟩
 ·unfold zBz;rw [hl,List.filter_append,List.filter_append,List.filter_append,u1,u2,u3,u3];simp
 ·rw [d2,List.any_append,List.any_append,a1,a2];cases fr <;> rfl
theorem zIg (l:List UInt8):l=fx (dol l)++qS l:=by
 unfold qS;cases l with
 | nil=>rfl
 | cons c t =>
  cases h:dol (c::t) with
  | false=>rfl
  | true =>
   have:c=36:=by simpa [dol] using h
   rw [this];rfl
theorem zCi (p:UInt8->Bool) (l:List UInt8):(l.takeWhile p).all p=true:=by
 induction l with
 | nil=>rfl
 | cons c t ih =>
  rw [List.takeWhile_cons];split
  ·rename_i h;simp [h,ih]
  ·rfl
theorem zQM (l:List UInt8):qW l=rw1 l:=by
 have hback:l=fx (dol l)++(qA l++(fx (dol (qD0 l))++qD l)):=by
  have e1:=zIg l;have e2:qS l=qA l++qD0 l:=(List.takeWhile_append_dropWhile).symm;have e3:=zIg (qD0 l);conv=>lhs;rw [e1,e2,e3]
  rfl
 by_cases hc:(Wpl.rdOk (qA l++qD l) && !(qA l).isEmpty && !(qD l).isEmpty && Wpl.isG ((qD l).headD 0))=true
 ·have hq:qW l=some ⟨⟨#[]⟩,Wpl.rdR (qA l++qD l),Wpl.rdC (qA l++qD l),dol (qD0 l),dol l⟩:=by unfold qW;rw [if_pos hc]
  simp only [Bool.and_eq_true,Bool.not_eq_true',List.isEmpty_eq_false_iff] at hc;obtain ⟨⟨⟨hr,hA0⟩,hD0⟩,hg⟩:=hc;have hA:(qA l).all Wpl.isL=true:=zCi _ _;obtain ⟨A,D,e,gA,gA0,gD,gD0,gC,gR,gB⟩:=zH3 hr;have hsplit:∀ (P Q A D:List UInt8),P++Q=A++D->P.all Wpl.isL=true->A.all Wpl.isL=true->Q ≠ []->Wpl.isL (Q.headD 0)=false->D ≠ []->Wpl.isL (D.headD 0)=false->P=A/\Q=D:=by
   intro P;induction P with
   | nil =>
    intro Q A D e h1 h2 h3 h4 h5 h6;cases A with
    | nil=>exact ⟨rfl,e⟩
    | cons c t =>
     simp only [List.nil_append] at e;rw [e] at h4;simp only [List.all_cons,Bool.and_eq_true] at h2;rw [show (c::t++D).headD 0=c from rfl,h2.1] at h4;cases h4
   | cons p P ih =>
    intro Q A D e h1 h2 h3 h4 h5 h6;cases A with
    | nil =>
     simp only [List.nil_append] at e;rw [<-e] at h6;simp only [List.all_cons,Bool.and_eq_true] at h1;rw [show (p::P++Q).headD 0=p from rfl,h1.1] at h6;cases h6
    | cons c t =>
     simp only [List.cons_append,List.cons.injEq] at e;simp only [List.all_cons,Bool.and_eq_true] at h1 h2;obtain ⟨i1,i2⟩:=ih Q t D e.2 h1.2 h2.2 h3 h4 h5 h6;exact ⟨by rw [e.1,i1],i2⟩
  have gnl:∀ x:UInt8,Wpl.isG x=true->Wpl.isL x=false:=λx hx=>by
   have:=isG_iff.1 hx;cases hq:Wpl.isL x with
   | false=>rfl
   | true=>have:=isL_iff.1 hq;omega
  have gDh:Wpl.isG (D.headD 0)=true:=by
   cases D with
   | nil=>exact absurd rfl gD0
   | cons c t=>simp only [List.all_cons,Bool.and_eq_true] at gD;exact gD.1
  obtain ⟨eA,eD⟩:=hsplit _ _ _ _ e hA gA hD0 (gnl _ hg) gD0 (gnl _ gDh);have hDa:(qD l).all Wpl.isG=true:=by rw [eD];exact gD
  obtain ⟨f1,f2,f3,f4,f5,f6,-⟩:=zEX hback hA hA0 hDa hD0;rw [hq];unfold rw1;have hrf:zIW l=⟨⟨#[]⟩,Wpl.rdR (qA l++qD l),Wpl.rdC (qA l++qD l),dol (qD0 l),dol l⟩:=by
   unfold zIW;have f6':(if dol l then l.drop 1 else l).any (λc=>c == 36)=dol (qD0 l):=f6;rw [f5,f6']
  have hcw:cw (zIW l)=l:=by
   rw [hrf];unfold cw;simp only;rw [gC,gR,<-eA,<-eD];conv=>rhs;rw [hback]
   simp
  rw [f5,if_pos hr,if_pos hcw,hrf]
 ·have hq:qW l=none:=by unfold qW;rw [if_neg hc]
  rw [hq];unfold rw1;by_cases hr:Wpl.rdOk (zBz l)=true
  ·rw [if_pos hr];by_cases hcw:cw (zIW l)=l
   ·exfalso
    apply hc
    obtain ⟨A,D,e,gA,gA0,gD,gD0,gC,gR,gB⟩:=zH3 hr;have hl:l=fx (dol l)++(A++(fx (zIW l).fr++D)):=by
     conv=>lhs;rw [<-hcw]
     unfold cw;show fx (dol l)++Wpl.colS (Wpl.rdC (zBz l))++fx (zIW l).fr++Lib.decDigits (Wpl.rdR (zBz l)+1).toNat=_
     rw [gC,gR];simp
    obtain ⟨f1,f2,f3,f4,f5,f6,f7⟩:=zEX hl gA gA0 gD gD0;rw [f2,f4,<-f5,hr,f7];simp [gA0,gD0]
   ·rw [if_neg hcw]
  ·rw [if_neg hr]
open Go.RowKit Tryz
theorem zQ6 (h:l[i]? = some c):i<(⟨l.toArray⟩:ByteArray).size:=by
 show i<l.toArray.size
 rw [List.size_toArray];exact (List.getElem?_eq_some_iff.1 h).1
theorem zCk (h:l[i]? = some c):((((⟨l.toArray⟩:ByteArray)[i]'(zQ6 h)).toNat:Nat):Int)=(c.toNat:Int):=by
 obtain ⟨hi,e⟩:=List.getElem?_eq_some_iff.1 h;have:(⟨l.toArray⟩:ByteArray)[i]'(zQ6 h)=l[i]:=rfl;rw [this,e]
def RD (s:List UInt8):Value:=.tuple #[.int .i64 (Wpl.rdR s),.int .i64 (Wpl.rdC s),.bool (Wpl.rdOk s)]
theorem zFH (h:Wpl.rdOk s=false):RD s=.tuple #[.int .i64 0,.int .i64 0,.bool false]:=by
 unfold RD Wpl.rdR Wpl.rdC;rw [h];rfl
theorem isL_int:Wpl.isL c=true ↔ 65<=(c.toNat:Int)/\(c.toNat:Int)<=90:=by simp [Wpl.isL];omega
theorem zGk (h:Wpl.isL c=false):¬ (65<=(c.toNat:Int)/\(c.toNat:Int)<=90):=by
 rw [<-isL_int,h];simp
theorem zSi (h:c ≠ 48):¬ (c.toNat:Int)=48:=λe=>h (UInt8.toNat_inj.1 (by
 have e2:c.toNat=48:=by omega
 rw [e2];rfl))
theorem zIp (w:World):Calls prog 190 #[.string ⟨#[]⟩] w λe w'=>e=.returned (RD [])/\w=w':=by
 have E:Hid (RD []=.tuple #[.int .i64 0,.int .i64 0,.bool false]):=zFH Wpl.rd_none;go_enter func190,ntmps190;go_wp2;go_loopw [5,6] (λx y wr=>x=.int .i64 0/\y=.int .i64 0/\wr=w) (λ_ _ _=>0)
 case atStart=>exact ⟨rfl,rfl,rfl⟩
 case round =>
  obtain ⟨rfl,rfl,rfl⟩:=hrel;go_wp2;go_ret3
  exact ⟨by rw [E.out];rfl,rfl⟩
theorem zLI (a:UInt8) (t:List UInt8) (w:World) (hl:t.length+1<=9223372036854775000) (h:Wpl.isL a=false):Calls prog 190 #[.string ⟨(a::t).toArray⟩] w λe w'=>e=.returned (RD (a::t))/\w=w':=by
 have E:Hid (RD (a::t)=.tuple #[.int .i64 0,.int .i64 0,.bool false]):=zFH (Wpl.rd_no t h);have h':=zGk h;obtain ⟨b0,b1⟩:=zCZ a;clear h;have hlen:(0:Int)<(t.length:Int)+1:=by omega
 have ea:=zCk (l:=a::t) (i:=0) (c:=a) rfl;go_enter func190,ntmps190;go_wp2;go_loopw [5,6] (λx y wr=>x=.int .i64 0/\y=.int .i64 0/\wr=w) (λ_ _ _=>0)
 case atStart=>exact ⟨rfl,rfl,rfl⟩
 case round =>
  obtain ⟨rfl,rfl,rfl⟩:=hrel;by_cases h1:65<=(a.toNat:Int)
  ·have h2:¬ (a.toNat:Int)<=90:=by omega
   go_wp2;go_ret3
   exact ⟨by rw [E.out];rfl,rfl⟩
  ·go_wp2;go_ret3
   exact ⟨by rw [E.out];rfl,rfl⟩
theorem zG6 (a b c:UInt8) (u:List UInt8) (w:World) (hl:u.length+3<=9223372036854775000) (h1:Wpl.isL a=true) (h2:Wpl.isL b=true) (h3:Wpl.isL c=true):Calls prog 190 #[.string ⟨(a::b::c::u).toArray⟩] w λe w'=>e=.returned (RD (a::b::c::u))/\w=w':=by
 have E:Hid (RD (a::b::c::u)=.tuple #[.int .i64 0,.int .i64 0,.bool false]):=zFH (Wpl.rd_three u h1 h2 h3);obtain ⟨p1,q1⟩:=isL_int.1 h1;obtain ⟨p2,q2⟩:=isL_int.1 h2;obtain ⟨p3,q3⟩:=isL_int.1 h3;clear h1 h2 h3;have ea:=zCk (l:=a::b::c::u) (i:=0) (c:=a) rfl;have eb:=zCk (l:=a::b::c::u) (i:=1) (c:=b) rfl;have ec:=zCk (l:=a::b::c::u) (i:=2) (c:=c) rfl;have l0:(0:Int)<(u.length:Int)+1+1+1:=by omega
 have l1:(1:Int)<(u.length:Int)+1+1+1:=by omega
 have l2:(2:Int)<(u.length:Int)+1+1+1:=by omega
 go_enter func190,ntmps190;go_wp2;go_loopw [5,6] (λx y wr=>∃ (k:Nat) (m:Int),k<=3/\x=.int .i64 k/\y=.int .i64 m/\0<=m/\m<=100000/\(k=0->m<=0)/\(k=1->m<=26)/\(k=2->m<=800)/\wr=w) (λx _ _=>3 - (intOf x).toNat)
 case atStart=>exact ⟨0,0,by omega,rfl,rfl,by omega,by omega,by omega,by omega,by omega,rfl⟩
 case round =>
  obtain ⟨k,m,hk,rfl,rfl,m0,m1,k0,k1,k2,rfl⟩:=hrel;rcases (show k=0 \/ k=1 \/ k=2 \/ k=3 by omega) with rfl | rfl | rfl | rfl
  ·have g:m<=0:=k0 rfl;clear k0 k1 k2;go_wp2_with fail
   go_roundw
   case rel=>exact ⟨1,26 * m+((a.toNat:Int) - 65)+1,by omega,rfl,rfl,by omega,by omega,by omega,by omega,by omega,trivial⟩
   case measure=>simp [intOf]
  ·have g:m<=26:=k1 rfl;clear k0 k1 k2;go_wp2_with fail
   go_roundw
   case rel=>exact ⟨2,26 * m+((b.toNat:Int) - 65)+1,by omega,rfl,rfl,by omega,by omega,by omega,by omega,by omega,trivial⟩
   case measure=>simp [intOf]
  ·have g:m<=800:=k2 rfl;clear k0 k1 k2;go_wp2_with fail
   go_roundw
   case rel=>exact ⟨3,26 * m+((c.toNat:Int) - 65)+1,by omega,rfl,rfl,by omega,by omega,by omega,by omega,by omega,trivial⟩
   case measure=>simp [intOf]
  ·clear k0 k1 k2;go_wp2;all_goals
    go_ret3
    exact ⟨by rw [E.out];rfl,rfl⟩
theorem zHo (a:UInt8) (w:World) (h1:Wpl.isL a=true):Calls prog 190 #[.string ⟨(a::[]).toArray⟩] w λe w'=>e=.returned (RD (a::[]))/\w=w':=by
 have hn:Wpl.noL []=true:=rfl;have E:Hid (RD (a::[])=.tuple #[.int .i64 0,.int .i64 0,.bool false]):=zFH (by rw [(Wpl.rd_one h1 hn).1,Wpl.dg_nil]);obtain ⟨p0,q0⟩:=isL_int.1 h1;have v0:Hid (((Wpl.vl a:Nat):Int)=(a.toNat:Int) - 65+1):=by show _=_;unfold Wpl.vl;omega
 have vi0:0<=((Wpl.vl a:Nat):Int)/\((Wpl.vl a:Nat):Int)<=26:=by have:=Wpl.vl_bd h1;omega
 have e0:=zCk (l:=a::[]) (i:=0) (c:=a) rfl;clear h1 hn;go_enter func190,ntmps190;go_wp2;go_loopw [5,6] (λx y wr=>∃ (k m:Nat),x=.int .i64 k/\y=.int .i64 m/\(k=0/\m=0 \/ k=1/\m=Wpl.vl a)/\wr=w) (λx _ _=>3 - (intOf x).toNat)
 case atStart=>exact ⟨0,0,rfl,rfl,by omega,rfl⟩
 case round =>
  obtain ⟨k,m,rfl,rfl,hst,rfl⟩:=hrel;rcases hst with ⟨rfl,rfl⟩ | ⟨rfl,rfl⟩
  ·go_wp2_with fail
   go_roundw
   case rel=>exact ⟨1,Wpl.vl a,rfl,congrArg (Value.int IntKind.i64) (by have:=v0.out;first | omega | (push_cast;omega)),by omega,trivial⟩
   case measure=>simp [intOf]
  ·go_wp2;go_ret3
   exact ⟨by rw [E.out];rfl,rfl⟩
theorem zIB (a b:UInt8) (w:World) (h1:Wpl.isL a=true) (h2:Wpl.isL b=true):Calls prog 190 #[.string ⟨(a::b::[]).toArray⟩] w λe w'=>e=.returned (RD (a::b::[]))/\w=w':=by
 have hn:Wpl.noL []=true:=rfl;have E:Hid (RD (a::b::[])=.tuple #[.int .i64 0,.int .i64 0,.bool false]):=zFH (by rw [(Wpl.rd_two h1 h2 hn).1,Wpl.dg_nil];simp);obtain ⟨p0,q0⟩:=isL_int.1 h1;have v0:Hid (((Wpl.vl a:Nat):Int)=(a.toNat:Int) - 65+1):=by show _=_;unfold Wpl.vl;omega
 have vi0:0<=((Wpl.vl a:Nat):Int)/\((Wpl.vl a:Nat):Int)<=26:=by have:=Wpl.vl_bd h1;omega
 have e0:=zCk (l:=a::b::[]) (i:=0) (c:=a) rfl;obtain ⟨p1,q1⟩:=isL_int.1 h2;have v1:Hid (((Wpl.vl b:Nat):Int)=(b.toNat:Int) - 65+1):=by show _=_;unfold Wpl.vl;omega
 have vi1:0<=((Wpl.vl b:Nat):Int)/\((Wpl.vl b:Nat):Int)<=26:=by have:=Wpl.vl_bd h2;omega
 have e1:=zCk (l:=a::b::[]) (i:=1) (c:=b) rfl;clear h1 h2 hn;go_enter func190,ntmps190;go_wp2;go_loopw [5,6] (λx y wr=>∃ (k m:Nat),x=.int .i64 k/\y=.int .i64 m/\(k=0/\m=0 \/ k=1/\m=Wpl.vl a \/ k=2/\m=Wpl.vl a * 26+Wpl.vl b)/\wr=w) (λx _ _=>3 - (intOf x).toNat)
 case atStart=>exact ⟨0,0,rfl,rfl,by omega,rfl⟩
 case round =>
  obtain ⟨k,m,rfl,rfl,hst,rfl⟩:=hrel;rcases hst with ⟨rfl,rfl⟩ | ⟨rfl,rfl⟩ | ⟨rfl,rfl⟩
  ·go_wp2_with fail
   go_roundw
   case rel=>exact ⟨1,Wpl.vl a,rfl,congrArg (Value.int IntKind.i64) (by have:=v0.out;have:=v1.out;first | omega | (push_cast;omega)),by omega,trivial⟩
   case measure=>simp [intOf]
  ·go_wp2_with fail
   go_roundw
   case rel=>exact ⟨2,Wpl.vl a * 26+Wpl.vl b,rfl,congrArg (Value.int IntKind.i64) (by have:=v0.out;have:=v1.out;first | omega | (push_cast;omega)),by omega,trivial⟩
   case measure=>simp [intOf]
  ·go_wp2;go_ret3
   exact ⟨by rw [E.out];rfl,rfl⟩
end Go.Proofs.YtdghjlmnlodnlaaGreatDoor
