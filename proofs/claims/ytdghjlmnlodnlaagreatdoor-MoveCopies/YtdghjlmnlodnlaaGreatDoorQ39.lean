/- LRefD, LRefE, LRefF, LRefG. -/
import Derived.Test.YtdghjlmnlodnlaaGreatDoorQ38
set_option maxHeartbeats 3200000
set_option maxRecDepth 100000
set_option linter.unusedVariables false
namespace Go.Proofs.YtdghjlmnlodnlaaGreatDoor
open Tryz
open Go.Shelf Go.RowKit
variable {t:List UInt8}
def zAY (q:Nat) (l:List UInt8) (e:Ending):Prop :=
 (Wlx.hit l=6/\∃ (k0:Int) (s0:ByteArray),e=.returned (.tuple #[.agg #[.int .i64 k0,.string s0,.int .i64 q],.int .i64 0,.int .i64 ((if l.head? = some 34 then 41 else 40:Nat):Int),.int .i64 q])) \/
 (¬ Wlx.hit l=6/\Wlx.runP Wlx.prt (l.take (Wlx.sz (Wlx.hit l) l))<Wlx.sz (Wlx.hit l) l/\∃ (k0:Int) (s0:ByteArray),e=.returned (.tuple #[.agg #[.int .i64 k0,.string s0,.int .i64 q],.int .i64 0,.int .i64 40,.int .i64 ((q+Wlx.runP Wlx.prt (l.take (Wlx.sz (Wlx.hit l) l)):Nat):Int)])) \/
 (¬ Wlx.hit l=6/\¬ Wlx.runP Wlx.prt (l.take (Wlx.sz (Wlx.hit l) l))<Wlx.sz (Wlx.hit l) l/\e=.returned (.tuple #[.agg #[.int .i64 (Wlx.hit l),.string ⟨(Wlx.said (Wlx.hit l) (l.take (Wlx.sz (Wlx.hit l) l))).toArray⟩,.int .i64 q],.int .i64 ((q+Wlx.sz (Wlx.hit l) l:Nat):Int),.int .i64 0,.int .i64 0]))
theorem zCE {q k n:Nat} {c:UInt8} {e:Ending} (h32:¬ c=32) (hk:Wlx.hit (c::t)=k) (h6:¬ k=6) (h2:¬ k=2) (hn:Wlx.sz k (c::t)=n) {s:ByteArray} (hs:s.data.toList=(c::t).take n)
  (he:e=.returned (.tuple #[.agg #[.int .i64 k,.string s,.int .i64 q],.int .i64 ((q+n:Nat):Int),.int .i64 0,.int .i64 0])):zAY q (c::t) e:=by
 subst hk hn;have ha:=Wlx.at_of h32 h6;have hl:((c::t).take (Wlx.sz (Wlx.hit (c::t)) (c::t))).length=Wlx.sz (Wlx.hit (c::t)) (c::t):=by
  rw [List.length_take];exact Nat.min_eq_left (Wlx.sz_le _ _)
 refine Or.inr (Or.inr ⟨h6,λhb=>h2 (Wlx.bad_text ha (by rw [hl];exact hb)),?_⟩);rw [he];have es:s=⟨(Wlx.said (Wlx.hit (c::t)) ((c::t).take (Wlx.sz (Wlx.hit (c::t)) (c::t)))).toArray⟩:=by
  unfold Wlx.said;rw [if_neg h2,<-hs]
 rw [es]
theorem zOY (b:ByteArray) (q:Nat) (c:UInt8) (t:List UInt8) (w:World) (hs:b.size<=1024) (hq:q<b.size) (hd:b.data.toList.drop q=c::t) (hc:Wlx.dig c=true):Calls prog 60 #[.string b,.int .i64 q] w λe w'=>zAY q (c::t) e/\Below w.heap.size w w':=by
 obtain ⟨_,hbq⟩:=zBY (x:=[]) (y:=t) (c:=c) hd;have hbq:b[q]=c:=hbq;have eb:(((b[q]).toNat:Nat):Int)=((c.toNat:Nat):Int):=by rw [hbq]
 have D0:=λw=>zAm c w
 rw [hc] at D0;obtain ⟨d,hdd⟩:∃ d,Wlx.runP Wlx.dig (c::t)=d:=⟨_,rfl⟩
 have hdl:d<=t.length+1:=by rw [<-hdd];exact Wlx.runP_le _ _
 have hd1:1<=d:=by rw [<-hdd,Wlx.runP_pos hc];omega
 have hsz:=zDU (by omega:q<=b.size) hd;simp only [List.length_cons] at hsz;have D1:=λw=>zCH b q w (by omega) hs
 rw [hd,hdd] at D1;have hqi:(q:Int)<(b.size:Int):=by omega
 have hcls:=Wlx.cls c;have h32:¬ c=32:=(hcls.1 (hcls.2.1 hc)).2.2.2.1;have hhit:Wlx.hit (c::t)=1:=Wlx.hit_of (Or.inl ⟨rfl,hc⟩) (Wlx.numSz_pos.2 hc);have hN:Wlx.sz 1 (c::t)=Wlx.numTl d ((c::t).drop d):=by
  show Wlx.numSz (c::t)=_
  unfold Wlx.numSz;rw [hdd,if_neg (by omega)]
 have hdrop:b.data.toList.drop (q+d)=(c::t).drop d:=by rw [<-List.drop_drop,hd]
 have FIN:Hid (∀ n e,Wlx.sz 1 (c::t)=n->n<=t.length+1->e=.returned (.tuple #[.agg #[.int .i64 1,.string (b.extract q (q+n)),.int .i64 q],.int .i64 ((q+n:Nat):Int),.int .i64 0,.int .i64 0])->zAY q (c::t) e):=by
  intro n e h1 h2 h3;refine zCE h32 hhit (by omega) (by omega) h1 (s:=b.extract q (q+n)) ?_ h3;rw [Lib.extract_data,hd,Nat.add_sub_cancel_left]
 have HN:Hid (Wlx.sz 1 (c::t)=Wlx.numTl d ((c::t).drop d)):=hN;have HDr:Hid (b.data.toList.drop (q+d)=(c::t).drop d):=hdrop;clear hdd hbq hcls h32 hhit hN hdrop hd hc;by_cases h1:q+d+1<b.size
 ·have h1i:(q:Int)+(d:Int)+1<(b.size:Int):=by omega
  have hl:=congrArg List.length HDr.out;have e2:b.data.toList.length=b.size:=rfl;rw [List.length_drop,e2] at hl;obtain ⟨x0,x1,z,hy⟩:∃ x0 x1 z,(c::t).drop d=x0::x1::z:=by
   match hm:(c::t).drop d,hl with
   | [],hl=>simp only [List.length_nil] at hl;omega
   | [x0],hl=>simp only [List.length_cons,List.length_nil] at hl;omega
   | x0::x1::z,_=>exact ⟨x0,x1,z,rfl⟩
  have hD:=HDr.out;rw [hy] at hD hl;simp only [List.length_cons] at hl;obtain ⟨_,hb0⟩:=zBY (x:=[]) (y:=x1::z) (c:=x0) hD;obtain ⟨_,hb1⟩:=zBY (x:=[x0]) (y:=z) (c:=x1) hD;have hb0:b[q+d]=x0:=hb0;have hb1:b[q+d+1]=x1:=hb1;have eb0:(((b[q+d]).toNat:Nat):Int)=((x0.toNat:Nat):Int):=by rw [hb0]
  have eb1:(((b[q+d+1]).toNat:Nat):Int)=((x1.toNat:Nat):Int):=by rw [hb1]
  have hN:=HN.out;rw [hy,Wlx.numTl_cons] at hN;have D2:=λw=>zAm x1 w
  have hqd:(q:Int)+(d:Int)<(b.size:Int):=by omega
  clear hb0 hb1 e2 hy HN HDr;by_cases h46:x0=46
  ·subst h46;have e46:((((46:UInt8).toNat:Nat):Int))=46:=rfl;rw [e46] at eb0;cases hdg:Wlx.dig x1 with
   | true =>
    rw [hdg] at D2;obtain ⟨m,hm⟩:∃ m,Wlx.runP Wlx.dig (x1::z)=m:=⟨_,rfl⟩
    have hm1:1<=m:=by rw [<-hm,Wlx.runP_pos hdg];omega
    have hml:m<=z.length+1:=by rw [<-hm];exact Wlx.runP_le _ _
    have hn:Wlx.sz 1 (c::t)=d+1+m:=by rw [hN,hm,if_pos ⟨rfl,by omega⟩]
    have D3:=λw=>zCH b (q+d+1) w (by omega) hs
    have hD1:b.data.toList.drop (q+d+1)=x1::z:=by rw [<-List.drop_drop,hD];rfl
    rw [hD1,hm] at D3;have HF:Hid (∀ e,e=.returned (.tuple #[.agg #[.int .i64 1,.string (b.extract q (q+(d+1+m))),.int .i64 q],.int .i64 ((q+(d+1+m):Nat):Int),.int .i64 0,.int .i64 0])->zAY q (c::t) e):=λe he=>FIN.out _ e hn (by omega) he
    obtain ⟨n,hnn⟩:∃ n,d+1+m=n:=⟨_,rfl⟩
    have hqn:q+d+1+m=q+n:=by omega
    rw [hqn] at D3;rw [hnn] at HF;have k1:(q:Int)<=(q:Int)+(n:Int):=by omega
    have k2:(q:Int)+(n:Int)<=(b.size:Int):=by omega
    have hc1:((q+d+1:Nat):Int)=(q:Int)+(d:Int)+1:=by omega
    rw [hc1] at D3;clear FIN hN hn hD hD1 hdg hm hnn hqn hc1 hl;go_enter func60,ntmps60;go_wp2_with fail
    refine (D0 _).mono ?_;rintro e w1 ⟨rfl,rfl⟩;go_wp2_with fail
    refine (D1 _).mono ?_;rintro e w1 ⟨rfl,rfl⟩;go_wp2_with fail
    refine (D2 _).mono ?_;rintro e w1 ⟨rfl,rfl⟩;go_wp2_with fail
    refine (D3 _).mono ?_;rintro e w1 ⟨rfl,rfl⟩;go_wp2;refine bodyPost_ret (v:=.tuple #[.agg #[.int .i64 1,.string (b.extract q (q+n)),.int .i64 q],.int .i64 ((q:Int)+(n:Int)),.int .i64 0,.int .i64 0]) (by simp [results,results60,go_sem]) rfl ⟨HF.out _ (by simp),?_⟩;exact ((Below.refl _ w).alloc (Nat.le_refl _) _).alloc (by simp) _
   | false =>
    rw [hdg] at D2;have hn:Wlx.sz 1 (c::t)=d:=by rw [hN,Wlx.runP_neg hdg,if_neg (by omega)]
    have HF:Hid (∀ e,e=.returned (.tuple #[.agg #[.int .i64 1,.string (b.extract q (q+d)),.int .i64 q],.int .i64 ((q+d:Nat):Int),.int .i64 0,.int .i64 0])->zAY q (c::t) e):=λe he=>FIN.out d e hn hdl he
    have k1:(q:Int)<=(q:Int)+(d:Int):=by omega
    have k2:(q:Int)+(d:Int)<=(b.size:Int):=by omega
    clear FIN hN hn hD hdg hl;go_enter func60,ntmps60;go_wp2_with fail
    refine (D0 _).mono ?_;rintro e w1 ⟨rfl,rfl⟩;go_wp2_with fail
    refine (D1 _).mono ?_;rintro e w1 ⟨rfl,rfl⟩;go_wp2_with fail
    refine (D2 _).mono ?_;rintro e w1 ⟨rfl,rfl⟩;go_wp2;refine bodyPost_ret (v:=.tuple #[.agg #[.int .i64 1,.string (b.extract q (q+d)),.int .i64 q],.int .i64 ((q:Int)+(d:Int)),.int .i64 0,.int .i64 0]) (by simp [results,results60,go_sem]) rfl ⟨HF.out _ (by simp),?_⟩;exact ((Below.refl _ w).alloc (Nat.le_refl _) _).alloc (by simp) _
  ·have e46:(((x0.toNat:Nat):Int) == 46)=false:=by
    refine beq_eq_false_iff_ne.2 (λe=>h46 ?_);have:x0.toNat=46:=by omega
    exact UInt8.toNat_inj.1 this
   have hn:Wlx.sz 1 (c::t)=d:=by rw [hN,if_neg (λh=>h46 h.1)]
   have HF:Hid (∀ e,e=.returned (.tuple #[.agg #[.int .i64 1,.string (b.extract q (q+d)),.int .i64 q],.int .i64 ((q+d:Nat):Int),.int .i64 0,.int .i64 0])->zAY q (c::t) e):=λe he=>FIN.out d e hn hdl he
   have k1:(q:Int)<=(q:Int)+(d:Int):=by omega
   have k2:(q:Int)+(d:Int)<=(b.size:Int):=by omega
   clear FIN hN hn hD h46 D2 hl;go_enter func60,ntmps60;go_wp2_with fail
   refine (D0 _).mono ?_;rintro e w1 ⟨rfl,rfl⟩;go_wp2_with fail
   refine (D1 _).mono ?_;rintro e w1 ⟨rfl,rfl⟩;go_wp2;refine bodyPost_ret (v:=.tuple #[.agg #[.int .i64 1,.string (b.extract q (q+d)),.int .i64 q],.int .i64 ((q:Int)+(d:Int)),.int .i64 0,.int .i64 0]) (by simp [results,results60,go_sem]) rfl ⟨HF.out _ (by simp),?_⟩;exact ((Below.refl _ w).alloc (Nat.le_refl _) _).alloc (by simp) _
 ·have h1i:¬ (q:Int)+(d:Int)+1<(b.size:Int):=by omega
  have hn:Wlx.sz 1 (c::t)=d:=by
   rw [HN.out];have hl:=congrArg List.length HDr.out;have e2:b.data.toList.length=b.size:=rfl;rw [List.length_drop,e2] at hl;cases hy:(c::t).drop d with
   | nil=>rfl
   | cons x y =>
    rw [hy] at hl;simp only [List.length_cons] at hl;have:y=[]:=List.eq_nil_of_length_eq_zero (by omega);subst this;rw [Wlx.numTl_cons,if_neg (by simp [Wlx.runP])]
  have HF:Hid (∀ e,e=.returned (.tuple #[.agg #[.int .i64 1,.string (b.extract q (q+d)),.int .i64 q],.int .i64 ((q+d:Nat):Int),.int .i64 0,.int .i64 0])->zAY q (c::t) e):=λe he=>FIN.out d e hn hdl he
  have k1:(q:Int)<=(q:Int)+(d:Int):=by omega
  have k2:(q:Int)+(d:Int)<=(b.size:Int):=by omega
  clear FIN HN HDr hn;go_enter func60,ntmps60;go_wp2_with fail
  refine (D0 _).mono ?_;rintro e w1 ⟨rfl,rfl⟩;go_wp2_with fail
  refine (D1 _).mono ?_;rintro e w1 ⟨rfl,rfl⟩;go_wp2;refine bodyPost_ret (v:=.tuple #[.agg #[.int .i64 1,.string (b.extract q (q+d)),.int .i64 q],.int .i64 ((q:Int)+(d:Int)),.int .i64 0,.int .i64 0]) (by simp [results,results60,go_sem]) rfl ⟨HF.out _ (by simp),?_⟩;exact ((Below.refl _ w).alloc (Nat.le_refl _) _).alloc (by simp) _
theorem zId (h:Wlx.txtSz (34::t)=0):Wlx.hit (34::t)=6:=by
 refine Wlx.hit_none λj a b=>?_
 have:j=1 \/ j=2 \/ j=3 \/ j=4 \/ j=5:=by omega
 rcases this with rfl | rfl | rfl | rfl | rfl
 ·have:¬ 0<Wlx.numSz (34::t):=λh=>absurd (Wlx.numSz_pos.1 h) (by decide)
  rw [Wlx.sz1];omega
 ·exact h
 ·have:¬ 0<Wlx.runP Wlx.wrd (34::t):=λh=>absurd (Wlx.wrdSz_pos.1 h) (by decide)
  rw [Wlx.sz3];omega
 ·have:¬ 0<Wlx.nameSz (34::t) Wlx.faults:=λh=>absurd (Wlx.faultSz_pos h) (by decide)
  rw [Wlx.sz4];omega
 ·have:¬ 0<Wlx.nameSz (34::t) Wlx.marks:=λh=>absurd (Wlx.markSz_pos h) (by decide)
  rw [Wlx.sz5];omega
theorem zLs (b:ByteArray) (q:Nat) (t:List UInt8) (w:World) (hs:b.size<=1024) (hq:q<b.size) (hd:b.data.toList.drop q=34::t):Calls prog 60 #[.string b,.int .i64 q] w λe w'=>zAY q (34::t) e/\Below w.heap.size w w':=by
 obtain ⟨_,hbq⟩:=zBY (x:=[]) (y:=t) (c:=34) hd;have hbq:b[q]=34:=hbq;have eb:(((b[q]).toNat:Nat):Int)=34:=by rw [hbq];rfl
 have D0:=λw=>zAm 34 w
 have e34:((((34:UInt8).toNat:Nat):Int))=34:=rfl;have ed:Wlx.dig 34=false:=rfl;rw [e34,ed] at D0;have hqi:(q:Int)<(b.size:Int):=by omega
 have T:=λw=>zIK b q t w hs hq (by rw [<-List.drop_drop,hd];rfl)
 have hn1:¬ (w.heap.size=w.heap.size+1):=by omega
 clear hbq hd e34 ed;go_enter func60,ntmps60;go_wp2_with fail
 refine (D0 _).mono ?_;rintro e w1 ⟨rfl,rfl⟩;go_wp2_with fail
 refine (T _).mono ?_;rintro e w1 ⟨hT,hb1⟩;have p4:AtL w1 w.heap.size [.int .i64 0,.string ⟨#[]⟩,.int .i64 0]:=AtL.below hb1 ((AtL.new0 w 107 [.int .i64 0,.string ⟨#[]⟩,.int .i64 0]).alloc _);have p9:AtL w1 (w.heap.size+1) [.int .i64 0,.string ⟨#[]⟩,.int .i64 q]:=AtL.below hb1 (AtL.new1 w _ 107 [.int .i64 0,.string ⟨#[]⟩,.int .i64 q]);have hB:Below w.heap.size w w1:=(((Below.refl _ w).alloc (Nat.le_refl _) _).alloc (by simp) _).trans (hb1.mono (by simp;omega));obtain ⟨a0,a1,a2,a3,a4,a5⟩:=p4.three;obtain ⟨c0,c1,c2,c3,c4,c5⟩:=p9.three;clear hb1 p4 p9 T D0;have ksz:=hB.size;generalize hk4:w.heap.size=k4 at *;rcases hT with ⟨hz,rfl⟩ | ⟨hz,hbad,rfl⟩ | ⟨hz,hbad,rfl⟩
 ·have HP:Hid (zAY q (34::t) (.returned (.tuple #[.agg #[.int .i64 0,.string ⟨#[]⟩,.int .i64 q],.int .i64 0,.int .i64 41,.int .i64 q]))):=Or.inl ⟨zId hz,0,⟨#[]⟩,rfl⟩;clear hz;go_wp2;refine bodyPost_ret (v:=.tuple #[.agg #[.int .i64 0,.string ⟨#[]⟩,.int .i64 q],.int .i64 0,.int .i64 41,.int .i64 q]) (by simp [results,results60,go_sem, *]) rfl ⟨HP.out,?_⟩;rw [hk4];exact zAe (k:=k4) hB (Nat.le_refl _) _ _ _
 ·have hh:Wlx.hit (34::t)=2:=Wlx.hit_of (Or.inr (Or.inl ⟨rfl,rfl⟩)) hz;obtain ⟨pl,hpl⟩:∃ pl,q+Wlx.runP Wlx.prt ((34::t).take (Wlx.txtSz (34::t)))=pl:=⟨_,rfl⟩
  have HP:Hid (zAY q (34::t) (.returned (.tuple #[.agg #[.int .i64 0,.string ⟨#[]⟩,.int .i64 q],.int .i64 0,.int .i64 40,.int .i64 pl]))):=by
   refine Or.inr (Or.inl ⟨by omega,?_,0,⟨#[]⟩,?_⟩)
   ·rw [hh];exact hbad
   ·rw [hh,<-hpl];rfl
  rw [hpl];clear hz hbad hh hpl;go_wp2;refine bodyPost_ret (v:=.tuple #[.agg #[.int .i64 0,.string ⟨#[]⟩,.int .i64 q],.int .i64 0,.int .i64 40,.int .i64 pl]) (by simp [results,results60,go_sem, *]) rfl ⟨HP.out,?_⟩;rw [hk4];exact zAe (k:=k4) hB (Nat.le_refl _) _ _ _
 ·have hh:Wlx.hit (34::t)=2:=Wlx.hit_of (Or.inr (Or.inl ⟨rfl,rfl⟩)) hz;obtain ⟨pl,hpl⟩:∃ pl,q+Wlx.txtSz (34::t)=pl:=⟨_,rfl⟩
  obtain ⟨S,hS⟩:∃ S:ByteArray,⟨(Wlx.said 2 ((34::t).take (Wlx.txtSz (34::t)))).toArray⟩=S:=⟨_,rfl⟩
  have HP:Hid (zAY q (34::t) (.returned (.tuple #[.agg #[.int .i64 2,.string S,.int .i64 q],.int .i64 pl,.int .i64 0,.int .i64 0]))):=by
   refine Or.inr (Or.inr ⟨by omega,?_,?_⟩)
   ·rw [hh];exact hbad
   ·rw [hh,<-hpl,<-hS];rfl
  rw [hpl,hS];clear hz hbad hh hpl hS;go_wp2;refine bodyPost_ret (v:=.tuple #[.agg #[.int .i64 2,.string S,.int .i64 q],.int .i64 pl,.int .i64 0,.int .i64 0]) (by simp [results,results60,go_sem, *]) rfl ⟨HP.out,?_⟩;rw [hk4];exact zAe (k:=k4) ((hB.setCell (p:=⟨k4+1,0,none⟩) (by show k4<=k4+1;omega) _).setCell (p:=⟨k4+1,1,none⟩) (by show k4<=k4+1;omega) _) (Nat.le_refl _) _ _ _
end Go.Proofs.YtdghjlmnlodnlaaGreatDoor
namespace Wlx
theorem wrd_iff (c:UInt8):wrd c=((cap c || low c) || decide ((c.toNat:Int)=36) || dig c):=rfl
end Wlx
namespace Go.Proofs.YtdghjlmnlodnlaaGreatDoor
open Tryz
open Go.Shelf Go.RowKit
theorem zL7 (b:ByteArray) (q:Nat) (c:UInt8) (t:List UInt8) (w:World) (hs:b.size<=1024) (hq:q<b.size) (hd:b.data.toList.drop q=c::t) (hc:Wlx.wrd c=true) (hdg:Wlx.dig c=false):Calls prog 60 #[.string b,.int .i64 q] w λe w'=>zAY q (c::t) e/\Below w.heap.size w w':=by
 obtain ⟨_,hbq⟩:=zBY (x:=[]) (y:=t) (c:=c) hd;have hbq:b[q]=c:=hbq;have eb:(((b[q]).toNat:Nat):Int)=((c.toNat:Nat):Int):=by rw [hbq]
 have D0:=λw=>zAm c w
 rw [hdg] at D0;have L0:=λw=>zBX c w
 have hqi:(q:Int)<(b.size:Int):=by omega
 have hcls:=(Wlx.cls c).1 hc;have h34:(((c.toNat:Nat):Int) == 34)=false:=by
  refine beq_eq_false_iff_ne.2 (λe=>hcls.1 ?_);have:c.toNat=34:=by omega
  exact UInt8.toNat_inj.1 this
 have hhit:Wlx.hit (c::t)=3:=Wlx.hit_of (Or.inr (Or.inr (Or.inl ⟨rfl,hc,hdg⟩))) (Wlx.wrdSz_pos.2 hc);obtain ⟨R,hR⟩:∃ R,q+Wlx.sz 3 (c::t)=R:=⟨_,rfl⟩
 have E0:Hid (R=q+1+Wlx.runP Wlx.wrd (b.data.toList.drop (q+1))):=by
  show _=_
  rw [<-hR,Wlx.sz3,Wlx.runP_pos hc,<-List.drop_drop,hd];show q+(Wlx.runP Wlx.wrd t+1)=q+1+Wlx.runP Wlx.wrd t
  omega
 have HF:Hid (∀ (j:Nat) e,R=j->e=.returned (.tuple #[.agg #[.int .i64 3,.string (b.extract q j),.int .i64 q],.int .i64 j,.int .i64 0,.int .i64 0])->zAY q (c::t) e):=by
  intro j e h1 h2;subst h1;refine zCE hcls.2.2.2.1 hhit (by omega) (by omega) rfl (s:=b.extract q R) ?_ (by rw [h2,hR];rfl);rw [Lib.extract_data,hd,<-hR,Nat.add_sub_cancel_left]
 cases hl0:(Wlx.cap c || Wlx.low c) with
 | true =>
  rw [hl0] at L0;clear hbq hcls hhit hR hl0 hd hc hdg;go_enter func60,ntmps60;go_wp2_with fail
  refine (D0 _).mono ?_;rintro e w1 ⟨rfl,rfl⟩;go_wp2_with fail
  refine (L0 _).mono ?_;rintro e w1 ⟨rfl,rfl⟩;go_wp2_with fail
  go_loopg [10] (b.size - (q+1)) (λgk x wr=>∃ j:Nat,x=.int .i64 j/\gk=b.size - j/\q+1<=j/\j<=b.size/\Hid (R=j+Wlx.runP Wlx.wrd (b.data.toList.drop j))/\wr=((w.alloc (.cells #[.int .i64 0,.string ⟨#[]⟩,.int .i64 0] 107)).alloc (.cells #[.int .i64 3,.string ⟨#[]⟩,.int .i64 q] 107)))
  case atStart=>exact ⟨q+1,by simp,rfl,Nat.le_refl _,hq,E0,rfl⟩
  case round =>
   clear E0;obtain ⟨j,rfl,hg,hj0,hj,HR,rfl⟩:=hrel;have k1:(q:Int)<=(j:Int):=by omega
   have k2:(j:Int)<=(b.size:Int):=by omega
   by_cases hlt:j<b.size
   ·have hli:(j:Int)<(b.size:Int):=by omega
    have LT:=λw=>zBX (b[j]) w
    have DG:=λw=>zAm (b[j]) w
    have hdj:=zA7 b j hlt;obtain ⟨x,hx⟩:∃ x,b[j]=x:=⟨_,rfl⟩
    rw [hx] at LT DG hdj;have ebj:(((b[j]).toNat:Nat):Int)=((x.toNat:Nat):Int):=by rw [hx]
    clear hx;cases hw:Wlx.wrd x with
    | true =>
     have E:Hid (R=(j+1)+Wlx.runP Wlx.wrd (b.data.toList.drop (j+1))):=by
      show _=_;rw [HR.out,hdj,Wlx.runP_pos hw];omega
     cases hlx:(Wlx.cap x || Wlx.low x) with
     | true =>
      rw [hlx] at LT;clear HR hdj hw hlx DG;go_wp2_with fail
      refine (LT _).mono ?_;rintro e w1 ⟨rfl,rfl⟩;go_wp2_with fail
      go_roundg (b.size - (j+1))
      case rel=>exact ⟨j+1,by simp,rfl,by omega,hlt,E,by first | trivial | rfl⟩
      case measure=>omega
     | false =>
      rw [hlx] at LT;cases hdx:Wlx.dig x with
      | true =>
       rw [hdx] at DG;clear HR hdj hw hlx hdx;go_wp2_with fail
       refine (LT _).mono ?_;rintro e w1 ⟨rfl,rfl⟩;go_wp2_with fail
       refine (DG _).mono ?_;rintro e w1 ⟨rfl,rfl⟩;go_wp2_with fail
       go_roundg (b.size - (j+1))
       case rel=>exact ⟨j+1,by simp,rfl,by omega,hlt,E,by first | trivial | rfl⟩
       case measure=>omega
      | false =>
       rw [hdx] at DG;have h36x:(((x.toNat:Nat):Int) == 36)=true:=by
        rw [Wlx.wrd_iff,hlx,hdx] at hw;simp at hw;rw [beq_iff_eq];omega
       clear HR hdj hw hlx hdx;go_wp2_with fail
       refine (LT _).mono ?_;rintro e w1 ⟨rfl,rfl⟩;go_wp2_with fail
       refine (DG _).mono ?_;rintro e w1 ⟨rfl,rfl⟩;go_wp2_with fail
       go_roundg (b.size - (j+1))
       case rel=>exact ⟨j+1,by simp,rfl,by omega,hlt,E,by first | trivial | rfl⟩
       case measure=>omega
    | false =>
     have E:Hid (R=j):=by show _=_;rw [HR.out,hdj,Wlx.runP_neg hw];rfl
     have hw2:=hw;rw [Wlx.wrd_iff] at hw2;simp only [Bool.or_eq_false_iff] at hw2;have hlx:(Wlx.cap x || Wlx.low x)=false:=by rw [hw2.1.1.1,hw2.1.1.2];rfl
     have h36x:(((x.toNat:Nat):Int) == 36)=false:=by
      have:=of_decide_eq_false hw2.1.2;exact beq_eq_false_iff_ne.2 this
     rw [hlx] at LT;rw [hw2.2] at DG;clear HR hdj hw hlx hw2;go_wp2_with fail
     refine (LT _).mono ?_;rintro e w1 ⟨rfl,rfl⟩;go_wp2_with fail
     refine (DG _).mono ?_;rintro e w1 ⟨rfl,rfl⟩;go_wp2;refine bodyPost_ret (v:=.tuple #[.agg #[.int .i64 3,.string (b.extract q j),.int .i64 q],.int .i64 j,.int .i64 0,.int .i64 0]) (by simp [results,results60,go_sem]) rfl ⟨HF.out _ _ E.out rfl,?_⟩;exact ((Below.refl _ w).alloc (Nat.le_refl _) _).alloc (by simp) _
   ·have hli:¬ (j:Int)<(b.size:Int):=by omega
    have E:Hid (R=j):=by show _=_;rw [HR.out,zAk b j hlt];rfl
    clear HR;go_wp2;refine bodyPost_ret (v:=.tuple #[.agg #[.int .i64 3,.string (b.extract q j),.int .i64 q],.int .i64 j,.int .i64 0,.int .i64 0]) (by simp [results,results60,go_sem]) rfl ⟨HF.out _ _ E.out rfl,?_⟩;exact ((Below.refl _ w).alloc (Nat.le_refl _) _).alloc (by simp) _
 | false =>
  rw [hl0] at L0;have h36:(((c.toNat:Nat):Int) == 36)=true:=by
   rw [Wlx.wrd_iff,hl0,hdg] at hc;simp at hc;rw [beq_iff_eq];omega
  clear hbq hcls hhit hR hl0 hd hc hdg;go_enter func60,ntmps60;go_wp2_with fail
  refine (D0 _).mono ?_;rintro e w1 ⟨rfl,rfl⟩;go_wp2_with fail
  refine (L0 _).mono ?_;rintro e w1 ⟨rfl,rfl⟩;go_wp2_with fail
  go_loopg [10] (b.size - (q+1)) (λgk x wr=>∃ j:Nat,x=.int .i64 j/\gk=b.size - j/\q+1<=j/\j<=b.size/\Hid (R=j+Wlx.runP Wlx.wrd (b.data.toList.drop j))/\wr=((w.alloc (.cells #[.int .i64 0,.string ⟨#[]⟩,.int .i64 0] 107)).alloc (.cells #[.int .i64 3,.string ⟨#[]⟩,.int .i64 q] 107)))
  case atStart=>exact ⟨q+1,by simp,rfl,Nat.le_refl _,hq,E0,rfl⟩
  case round =>
   clear E0;obtain ⟨j,rfl,hg,hj0,hj,HR,rfl⟩:=hrel;have k1:(q:Int)<=(j:Int):=by omega
   have k2:(j:Int)<=(b.size:Int):=by omega
   by_cases hlt:j<b.size
   ·have hli:(j:Int)<(b.size:Int):=by omega
    have LT:=λw=>zBX (b[j]) w
    have DG:=λw=>zAm (b[j]) w
    have hdj:=zA7 b j hlt;obtain ⟨x,hx⟩:∃ x,b[j]=x:=⟨_,rfl⟩
    rw [hx] at LT DG hdj;have ebj:(((b[j]).toNat:Nat):Int)=((x.toNat:Nat):Int):=by rw [hx]
    clear hx;cases hw:Wlx.wrd x with
    | true =>
     have E:Hid (R=(j+1)+Wlx.runP Wlx.wrd (b.data.toList.drop (j+1))):=by
      show _=_;rw [HR.out,hdj,Wlx.runP_pos hw];omega
     cases hlx:(Wlx.cap x || Wlx.low x) with
     | true =>
      rw [hlx] at LT;clear HR hdj hw hlx DG;go_wp2_with fail
      refine (LT _).mono ?_;rintro e w1 ⟨rfl,rfl⟩;go_wp2_with fail
      go_roundg (b.size - (j+1))
      case rel=>exact ⟨j+1,by simp,rfl,by omega,hlt,E,by first | trivial | rfl⟩
      case measure=>omega
     | false =>
      rw [hlx] at LT;cases hdx:Wlx.dig x with
      | true =>
       rw [hdx] at DG;clear HR hdj hw hlx hdx;go_wp2_with fail
       refine (LT _).mono ?_;rintro e w1 ⟨rfl,rfl⟩;go_wp2_with fail
       refine (DG _).mono ?_;rintro e w1 ⟨rfl,rfl⟩;go_wp2_with fail
       go_roundg (b.size - (j+1))
       case rel=>exact ⟨j+1,by simp,rfl,by omega,hlt,E,by first | trivial | rfl⟩
       case measure=>omega
      | false =>
       rw [hdx] at DG;have h36x:(((x.toNat:Nat):Int) == 36)=true:=by
        rw [Wlx.wrd_iff,hlx,hdx] at hw;simp at hw;rw [beq_iff_eq];omega
       clear HR hdj hw hlx hdx;go_wp2_with fail
       refine (LT _).mono ?_;rintro e w1 ⟨rfl,rfl⟩;go_wp2_with fail
       refine (DG _).mono ?_;rintro e w1 ⟨rfl,rfl⟩;go_wp2_with fail
       go_roundg (b.size - (j+1))
       case rel=>exact ⟨j+1,by simp,rfl,by omega,hlt,E,by first | trivial | rfl⟩
       case measure=>omega
    | false =>
     have E:Hid (R=j):=by show _=_;rw [HR.out,hdj,Wlx.runP_neg hw];rfl
     have hw2:=hw;rw [Wlx.wrd_iff] at hw2;simp only [Bool.or_eq_false_iff] at hw2;have hlx:(Wlx.cap x || Wlx.low x)=false:=by rw [hw2.1.1.1,hw2.1.1.2];rfl
     have h36x:(((x.toNat:Nat):Int) == 36)=false:=by
      have:=of_decide_eq_false hw2.1.2;exact beq_eq_false_iff_ne.2 this
     rw [hlx] at LT;rw [hw2.2] at DG;clear HR hdj hw hlx hw2;go_wp2_with fail
     refine (LT _).mono ?_;rintro e w1 ⟨rfl,rfl⟩;go_wp2_with fail
     refine (DG _).mono ?_;rintro e w1 ⟨rfl,rfl⟩;go_wp2;refine bodyPost_ret (v:=.tuple #[.agg #[.int .i64 3,.string (b.extract q j),.int .i64 q],.int .i64 j,.int .i64 0,.int .i64 0]) (by simp [results,results60,go_sem]) rfl ⟨HF.out _ _ E.out rfl,?_⟩;exact ((Below.refl _ w).alloc (Nat.le_refl _) _).alloc (by simp) _
   ·have hli:¬ (j:Int)<(b.size:Int):=by omega
    have E:Hid (R=j):=by show _=_;rw [HR.out,zAk b j hlt];rfl
    clear HR;go_wp2;refine bodyPost_ret (v:=.tuple #[.agg #[.int .i64 3,.string (b.extract q j),.int .i64 q],.int .i64 j,.int .i64 0,.int .i64 0]) (by simp [results,results60,go_sem]) rfl ⟨HF.out _ _ E.out rfl,?_⟩;exact ((Below.refl _ w).alloc (Nat.le_refl _) _).alloc (by simp) _
end Go.Proofs.YtdghjlmnlodnlaaGreatDoor
namespace Wlx
theorem zER {l:List UInt8}:∀ (ns:List (List UInt8)),0<nameSz l ns->∃ n ∈ ns,begins n l=true/\nameSz l ns=n.length
 | [],h=>by simp [nameSz] at h
 | n::r,h=>by
  unfold nameSz at h ⊢;cases hb:begins n l with
  | true=>rw [if_pos rfl];exact ⟨n,by simp,hb,rfl⟩
  | false =>
   rw [hb,if_neg (by decide)] at h;obtain ⟨x,hx,h1,h2⟩:=zER r h;rw [if_neg (by decide)];exact ⟨x,by simp [hx],h1,h2⟩
theorem zAz (l x:List UInt8) (r:List (List UInt8)):nameSz l (x::r)=if begins x l then x.length else nameSz l r:=rfl
theorem zDs {l:List UInt8} (n:List UInt8):∀ (ns:List (List UInt8)),(∀ x ∈ ns,0<x.length)->nameSz l (ns++[n])=if 0<nameSz l ns then nameSz l ns else if begins n l then n.length else 0
 | [],_=>by simp [nameSz]
 | x::r,h=>by
  have ih:=zDs (l:=l) n r (λy hy=>h y (by simp [hy]));have hx:=h x (by simp);rw [List.cons_append,zAz,zAz];cases hb:begins x l with
  | true=>simp only [if_true,hx]
  | false=>simp only [Bool.false_eq_true,if_false,ih]
theorem zIB {a b l:List UInt8} (h1:begins a l=true) (h2:begins b l=true):begins a b=true \/ begins b a=true:=by
 obtain ⟨s,hs⟩:=(zBR a l).1 h1;obtain ⟨t,ht⟩:=(zBR b l).1 h2;rw [hs] at ht;by_cases hl:a.length<=b.length
 ·left
  have e1:=congrArg (List.take a.length) ht;rw [List.take_left,List.take_append_of_le_length hl] at e1;exact (zBR a b).2 ⟨b.drop a.length,by conv=>lhs;rw [<-List.take_append_drop a.length b,<-e1]⟩
 ·right
  have e1:=congrArg (List.take b.length) ht;rw [List.take_append_of_le_length (by omega),List.take_left] at e1;exact (zBR b a).2 ⟨a.drop b.length,by conv=>lhs;rw [<-List.take_append_drop b.length a,e1]⟩
theorem zFt:∀ i:Fin 8,∀ n ∈ faults.take i,begins n (faults[i]'(i.2))=false/\begins (faults[i]'(i.2)) n=false:=by decide
theorem faults_long:∀ x ∈ faults,0<x.length:=by decide
theorem faults_short:∀ x ∈ faults,x.length<=8:=by decide
theorem fault_once {l:List UInt8} {i:Nat} (hi:i<8) (h:0<nameSz l (faults.take i)):begins (faults[i]'hi) l=false:=by
 obtain ⟨n,hn,hb,_⟩:=zER _ h;cases hc:begins (faults[i]'hi) l with
 | false=>rfl
 | true =>
  have g:begins n (faults[i]'hi)=false/\begins (faults[i]'hi) n=false:=zFt ⟨i,hi⟩ n hn;rcases zIB hb hc with h1 | h1
  ·rw [g.1] at h1;cases h1
  ·rw [g.2] at h1;cases h1
theorem fault_step {l:List UInt8} {i:Nat} (hi:i<8):nameSz l (faults.take (i+1))=if 0<nameSz l (faults.take i) then nameSz l (faults.take i) else if begins (faults[i]'hi) l then (faults[i]'hi).length else 0:=by
 have e:faults.take (i+1)=faults.take i++[faults[i]'hi]:=List.take_succ_eq_append_getElem hi;rw [e];exact zDs _ _ (λx hx=>faults_long x (List.mem_of_mem_take hx))
end Wlx
namespace Go.Proofs.YtdghjlmnlodnlaaGreatDoor
open Tryz
open Go.Shelf Go.RowKit
theorem zJU {t:List UInt8} (h:Wlx.nameSz (35::t) Wlx.faults=0):Wlx.hit (35::t)=6:=by
 refine Wlx.hit_none λj a b=>?_
 have:j=1 \/ j=2 \/ j=3 \/ j=4 \/ j=5:=by omega
 rcases this with rfl | rfl | rfl | rfl | rfl
 ·have:¬ 0<Wlx.numSz (35::t):=λh=>absurd (Wlx.numSz_pos.1 h) (by decide)
  rw [Wlx.sz1];omega
 ·have:¬ 0<Wlx.txtSz (35::t):=λh=>absurd (Wlx.txtSz_pos h) (by decide)
  rw [Wlx.sz2];omega
 ·have:¬ 0<Wlx.runP Wlx.wrd (35::t):=λh=>absurd (Wlx.wrdSz_pos.1 h) (by decide)
  rw [Wlx.sz3];omega
 ·exact h
 ·have:¬ 0<Wlx.nameSz (35::t) Wlx.marks:=λh=>absurd (Wlx.markSz_pos h) (by decide)
  rw [Wlx.sz5];omega
theorem zR5:Wlx.dig 35=false:=rfl
theorem zRc:(Wlx.cap 35 || Wlx.low 35)=false:=rfl
abbrev FaS (k4:Nat) (k q:Int) (W:World):Prop :=
 AtL W k4 [.int .i64 0,.string ⟨#[]⟩,.int .i64 0]/\AtL W (k4+1) [.int .i64 k,.string ⟨#[]⟩,.int .i64 q]
theorem zJF (b:ByteArray) (q:Nat) (t:List UInt8) (w:World) (hs:b.size<=1024) (hq:q<b.size) (hd:b.data.toList.drop q=35::t):Calls prog 60 #[.string b,.int .i64 q] w λe w'=>zAY q (35::t) e/\Below w.heap.size w w':=by
 obtain ⟨_,hbq⟩:=zBY (x:=[]) (y:=t) (c:=35) hd;have hbq:b[q]=35:=hbq;have eb:(((b[q]).toNat:Nat):Int)=35:=by rw [hbq];rfl
 have e35:((((35:UInt8).toNat:Nat):Int))=35:=rfl;have D0:=λw=>zAm 35 w
 have L0:=λw=>zBX 35 w
 rw [e35,zR5] at D0;rw [e35,zRc] at L0;have hqi:(q:Int)<(b.size:Int):=by omega
 have BG:=λ(n:List UInt8) (h:n.length<=8) w=>zBp b ⟨n.toArray⟩ q w (by omega) hs (by show n.length<=100;omega)
 rw [hd] at BG;have BG:Hid (∀ (n:List UInt8),n.length<=8->∀ w,Calls prog 95 #[.string b,.int .i64 q,.string ⟨n.toArray⟩] w λe w'=>e=.returned (.bool (Wlx.begins n (35::t)))/\w=w'):=BG;have hsz:=zDU (by omega:q<=b.size) hd;have hle:=Wlx.nameSz_le (35::t) Wlx.faults;have HF1:Hid (∀ (m:Nat) e,0<m->Wlx.nameSz (35::t) Wlx.faults=m->e=.returned (.tuple #[.agg #[.int .i64 4,.string (b.extract q (q+m)),.int .i64 q],.int .i64 ((q+m:Nat):Int),.int .i64 0,.int .i64 0])->zAY q (35::t) e):=by
  intro m e h0 h1 h2;have hh:Wlx.hit (35::t)=4:=Wlx.hit_of (Or.inr (Or.inr (Or.inr (Or.inl ⟨rfl,rfl⟩)))) (by rw [Wlx.sz4,h1];exact h0);refine zCE (by decide) hh (by omega) (by omega) h1 (s:=b.extract q (q+m)) ?_ h2;rw [Lib.extract_data,hd,Nat.add_sub_cancel_left]
 have HF2:Hid (Wlx.nameSz (35::t) Wlx.faults=0->zAY q (35::t) (.returned (.tuple #[.agg #[.int .i64 0,.string ⟨#[]⟩,.int .i64 q],.int .i64 0,.int .i64 40,.int .i64 q]))):=λh=>Or.inl ⟨zJU h,0,⟨#[]⟩,rfl⟩
 clear hbq hd e35;obtain ⟨l,hl⟩:∃ l,35::t=l:=⟨_,rfl⟩
 rw [hl] at BG HF1 HF2 hsz hle ⊢;clear hl;go_enter func60,ntmps60;go_wp2_with fail
 refine (D0 _).mono ?_;rintro e w1 ⟨rfl,rfl⟩;go_wp2_with fail
 refine (L0 _).mono ?_;rintro e w1 ⟨rfl,rfl⟩;go_wp2_with fail
 refine (zGC _).mono ?_;rintro e w1 ⟨rfl,hw1⟩;have p4:AtL w1 w.heap.size [.int .i64 0,.string ⟨#[]⟩,.int .i64 0]:=by rw [hw1];exact ((AtL.new0 w 107 [.int .i64 0,.string ⟨#[]⟩,.int .i64 0]).alloc _).alloc _
 have p9:AtL w1 (w.heap.size+1) [.int .i64 0,.string ⟨#[]⟩,.int .i64 q]:=by rw [hw1];exact (AtL.new1 w _ 107 [.int .i64 0,.string ⟨#[]⟩,.int .i64 q]).alloc _
 have pS:AtL w1 (w.heap.size+2) (zKs Wlx.faults):=by rw [hw1];exact AtL.new _ 9 (by simp) (zKs Wlx.faults)
 have hB:Below w.heap.size w w1:=by rw [hw1];exact (((Below.refl _ w).alloc (Nat.le_refl _) _).alloc (by simp) _).alloc (by simp;omega) _
 have hsl:(((w.alloc (.cells #[.int .i64 0,.string ⟨#[]⟩,.int .i64 0] 107)).alloc (.cells #[.int .i64 0,.string ⟨#[]⟩,.int .i64 q] 107)).heap.size)=w.heap.size+2:=by simp
 have HFa:FaS w.heap.size 0 q w1:=⟨p4,p9⟩
 have HSt:Hid (AtL w1 (w.heap.size+2) (zKs Wlx.faults)):=pS;clear p4 p9 pS hw1 D0 L0 hsl;go_wp2_with fail
 go_loopg [10,16] 8 (λgk y x wr=>∃ (i m en:Nat) (kk:Int),x=.int .i64 i/\y=.int .i64 en/\gk=8 - i/\i<=8/\Hid (m=Wlx.nameSz l (Wlx.faults.take i))/\(m=0->en=q+1/\kk=0)/\(0<m->en=q+m/\kk=4)/\Hid (FaS w.heap.size kk q wr)/\Hid (AtL wr (w.heap.size+2) (zKs Wlx.faults))/\Below w.heap.size w wr)
 case atStart=>exact ⟨0,0,q+1,0,rfl,by simp,rfl,by omega,(rfl:0=Wlx.nameSz l (Wlx.faults.take 0)),λ_=>⟨rfl,rfl⟩,λh=>by omega,HFa,HSt,hB⟩
 case round =>
  clear HFa HSt hB;obtain ⟨i,m,en,kk,rfl,rfl,hg,hi8,HM,hm0,hm1,HFa,HSt,hB⟩:=hrel;obtain ⟨p4,p9⟩:=HFa.out;have ksz:=hB.size;by_cases hlt:i<8
  ·have hli:(i:Int)<8:=by omega
   obtain ⟨x,hx⟩:∃ x,Wlx.faults[i]'hlt=x:=⟨_,rfl⟩
   have hxm:x ∈ Wlx.faults:=by rw [<-hx];exact List.getElem_mem hlt
   have hxs:=Wlx.faults_short x hxm;have hxl:=Wlx.faults_long x hxm;have ci:wr.cell? ⟨w.heap.size+2,i,none⟩=some (.string ⟨x.toArray⟩):=HSt.out.2.1 i _ (by unfold zKs;rw [List.getElem?_map,List.getElem?_eq_getElem hlt,hx];rfl);have B:=BG.out x hxs wr;have hst:=Wlx.fault_step (l:=l) hlt;have hon:=Wlx.fault_once (l:=l) hlt;rw [hx] at hst hon;rw [<-HM.out] at hst hon;obtain ⟨X,hX⟩:∃ X:ByteArray,(⟨x.toArray⟩:ByteArray)=X:=⟨_,rfl⟩
   have hXs:X.size=x.length:=by rw [<-hX];rfl
   rw [hX] at ci B;obtain ⟨c0,c1,c2,c3,c4,c5⟩:=p9.three;cases hbx:Wlx.begins x l with
   | true =>
    have hmz:m=0:=by
     by_cases h:0<m
     ·have:=hon h;rw [hbx] at this;cases this
     ·omega
    obtain ⟨rfl,rfl⟩:=hm0 hmz;rw [hmz,if_neg (by omega),hbx,if_pos rfl] at hst;rw [hbx] at B;have HM2:Hid (X.size=Wlx.nameSz l (Wlx.faults.take (i+1))):=by show _=_;rw [hst,hXs]
    have HFa2:Hid (FaS w.heap.size 4 q (wr.setCell ⟨w.heap.size+1,0,none⟩ (.int .i64 4))):=⟨p4.far (by omega) _ _,p9.set 0 (.int .i64 4)⟩
    have HSt2:Hid (AtL (wr.setCell ⟨w.heap.size+1,0,none⟩ (.int .i64 4)) (w.heap.size+2) (zKs Wlx.faults)):=HSt.out.far (by omega) _ _;have hB2:Below w.heap.size w (wr.setCell ⟨w.heap.size+1,0,none⟩ (.int .i64 4)):=hB.setCell (p:=⟨w.heap.size+1,0,none⟩) (by show w.heap.size<=w.heap.size+1;omega) _;have ci2:(wr.setCell ⟨w.heap.size+1,0,none⟩ (.int .i64 4)).cell? ⟨w.heap.size+2,i,none⟩=some (.string X):=by rw [World.cell?_setCell_far _ _ _ _ (by simp)];exact ci
    have hXb:X.size<=8:=by omega
    have hX0:0<X.size:=by omega
    clear hst hon hbx HM hm0 hm1 hX hXs hxm hxs hxl hx HFa HSt p4 p9 hmz BG hB;go_wp2_with fail
    refine B.mono ?_;rintro e w2 ⟨rfl,rfl⟩;go_wp2_with fail
    go_roundg (8 - (i+1))
    case rel=>exact ⟨i+1,X.size,q+X.size,4,by simp,by simp,rfl,by omega,HM2,λh=>by omega,λ_=>⟨rfl,rfl⟩,HFa2,HSt2,hB2⟩
    case measure=>omega
   | false =>
    have HM2:Hid (m=Wlx.nameSz l (Wlx.faults.take (i+1))):=by
     show _=_
     rw [hst,hbx];by_cases h:0<m
     ·rw [if_pos h]
     ·rw [if_neg h,if_neg (by decide)];omega
    rw [hbx] at B;clear hst hon hbx HM hX hXs hxm hxs hxl hx p4 p9 BG;go_wp2_with fail
    refine B.mono ?_;rintro e w2 ⟨rfl,rfl⟩;go_wp2_with fail
    go_roundg (8 - (i+1))
    case rel=>exact ⟨i+1,m,en,kk,by simp,rfl,rfl,by omega,HM2,hm0,hm1,HFa,HSt,hB⟩
    case measure=>omega
  ·obtain rfl:i=8:=by omega
   have HM2:Hid (Wlx.nameSz l Wlx.faults=m):=by show _=_;rw [HM.out];rfl
   have hml:m<=l.length:=by rw [<-HM2.out];exact hle
   obtain ⟨a0,a1,a2,a3,a4,a5⟩:=p4.three;obtain ⟨c0,c1,c2,c3,c4,c5⟩:=p9.three;generalize hk4:w.heap.size=k4 at *;have hn1:¬ (k4=k4+1):=by omega
   by_cases hm:0<m
   ·obtain ⟨rfl,rfl⟩:=hm1 hm;have HP:Hid (∀ e,e=.returned (.tuple #[.agg #[.int .i64 4,.string (b.extract q (q+m)),.int .i64 q],.int .i64 ((q+m:Nat):Int),.int .i64 0,.int .i64 0])->zAY q l e):=λe he=>HF1.out m e hm HM2.out he
    have k1:(q:Int)<=(q:Int)+(m:Int):=by omega
    have k2:(q:Int)+(m:Int)<=(b.size:Int):=by omega
    clear hm0 hm1 HM HM2 HF1 HF2 HFa HSt BG p4 p9;go_wp2;refine bodyPost_ret (v:=.tuple #[.agg #[.int .i64 4,.string (b.extract q (q+m)),.int .i64 q],.int .i64 ((q:Int)+(m:Int)),.int .i64 0,.int .i64 0]) (by simp [results,results60,go_sem, *]) rfl ⟨HP.out _ (by simp),?_⟩;rw [hk4];exact zAe (k:=k4) (hB.setCell (p:=⟨k4+1,1,none⟩) (by show k4<=k4+1;omega) _) (Nat.le_refl _) _ _ _
   ·have hmz:m=0:=by omega
    obtain ⟨rfl,rfl⟩:=hm0 hmz;have HP:Hid (zAY q l (.returned (.tuple #[.agg #[.int .i64 0,.string ⟨#[]⟩,.int .i64 q],.int .i64 0,.int .i64 40,.int .i64 q]))):=HF2.out (by rw [HM2.out];exact hmz);clear hm0 hm1 HM HM2 HF1 HF2 HFa HSt BG p4 p9 hm hmz;go_wp2;refine bodyPost_ret (v:=.tuple #[.agg #[.int .i64 0,.string ⟨#[]⟩,.int .i64 q],.int .i64 0,.int .i64 40,.int .i64 q]) (by simp [results,results60,go_sem, *]) rfl ⟨HP.out,?_⟩;rw [hk4];exact zAe (k:=k4) hB (Nat.le_refl _) _ _ _
