/- LRefH, LRefI, TQParse, TRdI, TRefK, TRefLP. -/
import Derived.Test.YtdghjlmnlodnlaaGreatDoorQ39
set_option maxHeartbeats 3200000
set_option maxRecDepth 100000
namespace Wlx
def singles:List UInt8:=[43,45,42,47,94,38,37,40,41,44,58,33,61,60,62]
theorem zMR:marks=[60,62]::[60,61]::[62,61]::singles.map (λx=>[x]):=rfl
theorem zCJ (c:UInt8) (t:List UInt8):∀ ss:List UInt8,nameSz (c::t) (ss.map (λx=>[x]))=if c ∈ ss then 1 else 0
 | []=>by simp [nameSz]
 | x::r=>by
  rw [List.map_cons,zAz,zCJ c t r];have hb:begins [x] (c::t)=decide (x=c):=by show (decide (x=c) && begins [] t)=_;simp [begins]
  rw [hb];by_cases h:x=c
  ·subst h;simp
  ·have h2:¬ c=x:=λe=>h e.symm
   simp [h,h2]
theorem nameSz_marks (c:UInt8) (t:List UInt8):nameSz (c::t) marks=if begins [60,62] (c::t) || begins [60,61] (c::t) || begins [62,61] (c::t) then 2 else if c ∈ singles then 1 else 0:=by
 rw [zMR,zAz,zAz,zAz,zCJ];cases begins [60,62] (c::t) <;> cases begins [60,61] (c::t) <;> cases begins [62,61] (c::t) <;> simp
end Wlx
namespace Go.Proofs.YtdghjlmnlodnlaaGreatDoor
open Tryz
open Go.Shelf Go.RowKit
set_option linter.unusedVariables false
variable {f p s d B:Nat} {w:World} {L:List Wt.Nd} {v:Wt.Vl} {ts:List Wlx.TV} {x:Wt.Nd}
theorem zJw {c:UInt8} {t:List UInt8} (h1:Wlx.wrd c=false) (h2:¬ c=34) (h3:¬ c=35) (h:Wlx.nameSz (c::t) Wlx.marks=0):Wlx.hit (c::t)=6:=by
 refine Wlx.hit_none λj a b=>?_
 have:j=1 \/ j=2 \/ j=3 \/ j=4 \/ j=5:=by omega
 rcases this with rfl | rfl | rfl | rfl | rfl
 ·have:¬ 0<Wlx.numSz (c::t):=λh=>by have:=(Wlx.cls c).2.1 (Wlx.numSz_pos.1 h);rw [h1] at this;cases this
  rw [Wlx.sz1];omega
 ·have:¬ 0<Wlx.txtSz (c::t):=λh=>h2 (Wlx.txtSz_pos h)
  rw [Wlx.sz2];omega
 ·have:¬ 0<Wlx.runP Wlx.wrd (c::t):=λh=>by have:=Wlx.wrdSz_pos.1 h;rw [h1] at this;cases this
  rw [Wlx.sz3];omega
 ·have:¬ 0<Wlx.nameSz (c::t) Wlx.faults:=λh=>h3 (Wlx.faultSz_pos h)
  rw [Wlx.sz4];omega
 ·exact h
theorem zLN (b:ByteArray) (q:Nat) (c:UInt8) (t:List UInt8) (w:World) (hs:b.size<=1024) (hq:q<b.size) (hd:b.data.toList.drop q=c::t) (hw:Wlx.wrd c=false) (h34:¬ c=34) (h35:¬ c=35) (h32:¬ c=32):Calls prog 60 #[.string b,.int .i64 q] w λe w'=>zAY q (c::t) e/\Below w.heap.size w w':=by
 obtain ⟨_,hbq⟩:=zBY (x:=[]) (y:=t) (c:=c) hd;have hbq:b[q]=c:=hbq;have eb:(((b[q]).toNat:Nat):Int)=((c.toNat:Nat):Int):=by rw [hbq]
 have cb:=zCA c;have D0:=λw=>zAm c w
 have L0:=λw=>zBX c w
 have hw2:=hw;rw [Wlx.wrd_iff] at hw2;simp only [Bool.or_eq_false_iff] at hw2;have hlx:(Wlx.cap c || Wlx.low c)=false:=by rw [hw2.1.1.1,hw2.1.1.2];rfl
 rw [hlx] at L0;rw [hw2.2] at D0;have e36:(((c.toNat:Nat):Int) == 36)=false:=beq_eq_false_iff_ne.2 (of_decide_eq_false hw2.1.2);have ne:∀ d:UInt8,¬ c=d->(((c.toNat:Nat):Int) == ((d.toNat:Nat):Int))=false:=λd h=>by
  refine beq_eq_false_iff_ne.2 (λe=>h ?_);have:c.toNat=d.toNat:=by omega
  exact UInt8.toNat_inj.1 this
 have e34:(((c.toNat:Nat):Int) == 34)=false:=ne 34 h34;have e35:(((c.toNat:Nat):Int) == 35)=false:=ne 35 h35;have hqi:(q:Int)<(b.size:Int):=by omega
 have hsz:=zDU (by omega:q<=b.size) hd;simp only [List.length_cons] at hsz;have B1:=λw=>zBp b ⟨#[60,62]⟩ q w (by omega) hs (by decide)
 have B2:=λw=>zBp b ⟨#[60,61]⟩ q w (by omega) hs (by decide)
 have B3:=λw=>zBp b ⟨#[62,61]⟩ q w (by omega) hs (by decide)
 have l1:(⟨#[60,62]⟩:ByteArray).data.toList=[60,62]:=rfl;have l2:(⟨#[60,61]⟩:ByteArray).data.toList=[60,61]:=rfl;have l3:(⟨#[62,61]⟩:ByteArray).data.toList=[62,61]:=rfl;rw [l1,hd] at B1;rw [l2,hd] at B2;rw [l3,hd] at B3;have hM:=Wlx.nameSz_marks c t;have plain:∀ n,0<n->Wlx.nameSz (c::t) Wlx.marks=n->n<=t.length+1->∀ e,e=.returned (.tuple #[.agg #[.int .i64 5,.string (b.extract q (q+n)),.int .i64 q],.int .i64 ((q+n:Nat):Int),.int .i64 0,.int .i64 0])->zAY q (c::t) e:=by
  intro n h0 h1 _ e he;have hmk:Wlx.mk c=true:=Wlx.markSz_pos (by rw [h1];exact h0);have hh:Wlx.hit (c::t)=5:=Wlx.hit_of (Or.inr (Or.inr (Or.inr (Or.inr ⟨rfl,hmk⟩)))) (by rw [Wlx.sz5,h1];exact h0);refine zCE h32 hh (by omega) (by omega) h1 (s:=b.extract q (q+n)) ?_ he;rw [Lib.extract_data,hd,Nat.add_sub_cancel_left]
 have two:∀ p:List UInt8,p.length=2->Wlx.begins p (c::t)=true->q+2<=b.size:=λp h1 h2=>by
  have:=Wlx.begins_length p (c::t) h2;simp only [List.length_cons] at this;omega
 cases hb1:Wlx.begins [60,62] (c::t) with
 | true =>
  rw [hb1] at B1 hM;have hm:Wlx.nameSz (c::t) Wlx.marks=2:=by rw [hM];rfl
  have h2:=two _ rfl hb1;have HF2:Hid (∀ e,e=.returned (.tuple #[.agg #[.int .i64 5,.string (b.extract q (q+2)),.int .i64 q],.int .i64 ((q+2:Nat):Int),.int .i64 0,.int .i64 0])->zAY q (c::t) e):=plain 2 (by omega) hm (by omega);have k1:(q:Int)<=(q:Int)+2:=by omega
  have k2:(q:Int)+2<=(b.size:Int):=by omega
  clear plain two hM hm hb1 hbq hd hw hw2 hlx ne B2 B3 l1 l2 l3 h34 h35 h32;go_enter func60,ntmps60;go_wp2_with fail
  refine (D0 _).mono ?_;rintro e w1 ⟨rfl,rfl⟩;go_wp2_with fail
  refine (L0 _).mono ?_;rintro e w1 ⟨rfl,rfl⟩;go_wp2_with fail
  refine (B1 _).mono ?_;rintro e w1 ⟨rfl,rfl⟩;go_wp2;refine bodyPost_ret (v:=.tuple #[.agg #[.int .i64 5,.string (b.extract q (q+2)),.int .i64 q],.int .i64 ((q:Int)+2),.int .i64 0,.int .i64 0]) (by simp [results,results60,go_sem]) rfl ⟨HF2.out _ (by simp),?_⟩;exact ((Below.refl _ w).alloc (Nat.le_refl _) _).alloc (by simp) _
 | false =>
  rw [hb1] at B1 hM;cases hb2:Wlx.begins [60,61] (c::t) with
  | true =>
   rw [hb2] at B2 hM;have hm:Wlx.nameSz (c::t) Wlx.marks=2:=by rw [hM];rfl
   have h2:=two _ rfl hb2;have HF2:Hid (∀ e,e=.returned (.tuple #[.agg #[.int .i64 5,.string (b.extract q (q+2)),.int .i64 q],.int .i64 ((q+2:Nat):Int),.int .i64 0,.int .i64 0])->zAY q (c::t) e):=plain 2 (by omega) hm (by omega);have k1:(q:Int)<=(q:Int)+2:=by omega
   have k2:(q:Int)+2<=(b.size:Int):=by omega
   clear plain two hM hm hb1 hb2 hbq hd hw hw2 hlx ne B3 l1 l2 l3 h34 h35 h32;go_enter func60,ntmps60;go_wp2_with fail
   refine (D0 _).mono ?_;rintro e w1 ⟨rfl,rfl⟩;go_wp2_with fail
   refine (L0 _).mono ?_;rintro e w1 ⟨rfl,rfl⟩;go_wp2_with fail
   refine (B1 _).mono ?_;rintro e w1 ⟨rfl,rfl⟩;go_wp2_with fail
   refine (B2 _).mono ?_;rintro e w1 ⟨rfl,rfl⟩;go_wp2;refine bodyPost_ret (v:=.tuple #[.agg #[.int .i64 5,.string (b.extract q (q+2)),.int .i64 q],.int .i64 ((q:Int)+2),.int .i64 0,.int .i64 0]) (by simp [results,results60,go_sem]) rfl ⟨HF2.out _ (by simp),?_⟩;exact ((Below.refl _ w).alloc (Nat.le_refl _) _).alloc (by simp) _
  | false =>
   rw [hb2] at B2 hM;cases hb3:Wlx.begins [62,61] (c::t) with
   | true =>
    rw [hb3] at B3 hM;have hm:Wlx.nameSz (c::t) Wlx.marks=2:=by rw [hM];rfl
    have h2:=two _ rfl hb3;have HF2:Hid (∀ e,e=.returned (.tuple #[.agg #[.int .i64 5,.string (b.extract q (q+2)),.int .i64 q],.int .i64 ((q+2:Nat):Int),.int .i64 0,.int .i64 0])->zAY q (c::t) e):=plain 2 (by omega) hm (by omega);have k1:(q:Int)<=(q:Int)+2:=by omega
    have k2:(q:Int)+2<=(b.size:Int):=by omega
    clear plain two hM hm hb1 hb2 hb3 hbq hd hw hw2 hlx ne l1 l2 l3 h34 h35 h32;go_enter func60,ntmps60;go_wp2_with fail
    refine (D0 _).mono ?_;rintro e w1 ⟨rfl,rfl⟩;go_wp2_with fail
    refine (L0 _).mono ?_;rintro e w1 ⟨rfl,rfl⟩;go_wp2_with fail
    refine (B1 _).mono ?_;rintro e w1 ⟨rfl,rfl⟩;go_wp2_with fail
    refine (B2 _).mono ?_;rintro e w1 ⟨rfl,rfl⟩;go_wp2_with fail
    refine (B3 _).mono ?_;rintro e w1 ⟨rfl,rfl⟩;go_wp2;refine bodyPost_ret (v:=.tuple #[.agg #[.int .i64 5,.string (b.extract q (q+2)),.int .i64 q],.int .i64 ((q:Int)+2),.int .i64 0,.int .i64 0]) (by simp [results,results60,go_sem]) rfl ⟨HF2.out _ (by simp),?_⟩;exact ((Below.refl _ w).alloc (Nat.le_refl _) _).alloc (by simp) _
   | false =>
    rw [hb3] at B3 hM;have hM2:Wlx.nameSz (c::t) Wlx.marks=if c ∈ Wlx.singles then 1 else 0:=by rw [hM];rfl
    have HF1:Hid (c ∈ Wlx.singles->∀ e,e=.returned (.tuple #[.agg #[.int .i64 5,.string (b.extract q (q+1)),.int .i64 q],.int .i64 ((q+1:Nat):Int),.int .i64 0,.int .i64 0])->zAY q (c::t) e):=λh=>plain 1 (by omega) (by rw [hM2,if_pos h]) (by omega)
    have HF0:Hid (¬ c ∈ Wlx.singles->zAY q (c::t) (.returned (.tuple #[.agg #[.int .i64 0,.string ⟨#[]⟩,.int .i64 q],.int .i64 0,.int .i64 40,.int .i64 q]))):=λh=>Or.inl ⟨zJw hw h34 h35 (by rw [hM2,if_neg h]),0,⟨#[]⟩,by rw [if_neg (by simp;exact h34)];rfl⟩
    have k1:(q:Int)<=(q:Int)+1:=by omega
    have k2:(q:Int)+1<=(b.size:Int):=by omega
    have NE:Hid (∀ d:UInt8,¬ c=d->(((c.toNat:Nat):Int) == ((d.toNat:Nat):Int))=false):=ne;clear plain two hM hM2 hb1 hb2 hb3 hbq hd hw hw2 hlx ne l1 l2 l3 h34 h35 h32;go_enter func60,ntmps60;go_wp2_with fail
    refine (D0 _).mono ?_;rintro e w1 ⟨rfl,rfl⟩;go_wp2_with fail
    refine (L0 _).mono ?_;rintro e w1 ⟨rfl,rfl⟩;go_wp2_with fail
    refine (B1 _).mono ?_;rintro e w1 ⟨rfl,rfl⟩;go_wp2_with fail
    refine (B2 _).mono ?_;rintro e w1 ⟨rfl,rfl⟩;go_wp2_with fail
    refine (B3 _).mono ?_;rintro e w1 ⟨rfl,rfl⟩;go_wp2_with fail
    have p4:AtL ((w.alloc (.cells #[.int .i64 0,.string ⟨#[]⟩,.int .i64 0] 107)).alloc (.cells #[.int .i64 0,.string ⟨#[]⟩,.int .i64 q] 107)) w.heap.size [.int .i64 0,.string ⟨#[]⟩,.int .i64 0]:=(AtL.new0 w 107 [.int .i64 0,.string ⟨#[]⟩,.int .i64 0]).alloc _;have p9:AtL ((w.alloc (.cells #[.int .i64 0,.string ⟨#[]⟩,.int .i64 0] 107)).alloc (.cells #[.int .i64 0,.string ⟨#[]⟩,.int .i64 q] 107)) (w.heap.size+1) [.int .i64 0,.string ⟨#[]⟩,.int .i64 q]:=AtL.new1 w _ 107 [.int .i64 0,.string ⟨#[]⟩,.int .i64 q];have hB:Below w.heap.size w ((w.alloc (.cells #[.int .i64 0,.string ⟨#[]⟩,.int .i64 0] 107)).alloc (.cells #[.int .i64 0,.string ⟨#[]⟩,.int .i64 q] 107)):=((Below.refl _ w).alloc (Nat.le_refl _) _).alloc (by simp) _;generalize ((w.alloc (.cells #[.int .i64 0,.string ⟨#[]⟩,.int .i64 0] 107)).alloc (.cells #[.int .i64 0,.string ⟨#[]⟩,.int .i64 q] 107))=W1 at *;have hMl:(⟨#[43,45,42,47,94,38,37,40,41,44,58,33,61,60,62]⟩:ByteArray).data.toList=Wlx.singles:=rfl;have hMs:(⟨#[43,45,42,47,94,38,37,40,41,44,58,33,61,60,62]⟩:ByteArray).size=15:=rfl;generalize (⟨#[43,45,42,47,94,38,37,40,41,44,58,33,61,60,62]⟩:ByteArray)=MS at *;have HMl:Hid (MS.data.toList=Wlx.singles):=hMl;clear hMl;have HFa0:Hid (FaS w.heap.size 0 q W1):=⟨p4,p9⟩
    clear p4 p9 B1 B2 B3 D0 L0;go_loopg [18] 15 (λgk x wr=>∃ (i:Nat) (kk:Int),x=.int .i64 i/\gk=15 - i/\i<=15/\Hid (kk=if c ∈ Wlx.singles.take i then 5 else 0)/\Hid (FaS w.heap.size kk q wr)/\Below w.heap.size w wr)
    case atStart=>exact ⟨0,0,rfl,rfl,by omega,(rfl:(0:Int)=if c ∈ Wlx.singles.take 0 then 5 else 0),HFa0,hB⟩
    case round =>
     clear HFa0 hB;obtain ⟨i,kk,rfl,hg,hi15,HK,HFa,hB⟩:=hrel;obtain ⟨p4,p9⟩:=HFa.out;have ksz:=hB.size;by_cases hlt:i<15
     ·have hli:(i:Int)<15:=by omega
      have hil:i<MS.size:=by omega
      have hil2:i<Wlx.singles.length:=hlt;have hx:MS[i]=Wlx.singles[i]'hlt:=by
       have e1:MS.data.toList[i]? = some MS[i]:=List.getElem?_eq_getElem (by exact hil);rw [HMl.out,List.getElem?_eq_getElem hil2] at e1;exact (Option.some.inj e1).symm
      have etk:Wlx.singles.take (i+1)=Wlx.singles.take i++[Wlx.singles[i]'hlt]:=List.take_succ_eq_append_getElem hil2;obtain ⟨x,hxx⟩:∃ x,Wlx.singles[i]'hlt=x:=⟨_,rfl⟩
      rw [hxx] at hx etk;have ebx:(((MS[i]).toNat:Nat):Int)=((x.toNat:Nat):Int):=by rw [hx]
      obtain ⟨c0,c1,c2,c3,c4,c5⟩:=p9.three;by_cases hcx:c=x
      ·have HK2:Hid ((5:Int)=if c ∈ Wlx.singles.take (i+1) then 5 else 0):=by
        show _=_
        rw [etk,if_pos (by rw [hcx];simp)]
       have HFa2:Hid (FaS w.heap.size 5 q (wr.setCell ⟨w.heap.size+1,0,none⟩ (.int .i64 5))):=⟨p4.far (by omega) _ _,p9.set 0 (.int .i64 5)⟩
       have hB2:Below w.heap.size w (wr.setCell ⟨w.heap.size+1,0,none⟩ (.int .i64 5)):=hB.setCell (p:=⟨w.heap.size+1,0,none⟩) (by show w.heap.size<=w.heap.size+1;omega) _;have eq1:(((c.toNat:Nat):Int) == ((x.toNat:Nat):Int))=true:=by rw [hcx];simp
       clear HK HFa hB hx hxx etk hcx p4 p9;go_wp2_with fail
       go_roundg (15 - (i+1))
       case rel=>exact ⟨i+1,5,by simp,rfl,by omega,HK2,HFa2,hB2⟩
       case measure=>omega
      ·have HK2:Hid (kk=if c ∈ Wlx.singles.take (i+1) then 5 else 0):=by
        show _=_
        rw [HK.out,etk];by_cases h:c ∈ Wlx.singles.take i
        ·rw [if_pos h,if_pos (by simp [h])]
        ·rw [if_neg h,if_neg (by simp [h,hcx])]
       have eq1:=NE.out x hcx;clear HK hx hxx etk hcx p4 p9;go_wp2_with fail
       go_roundg (15 - (i+1))
       case rel=>exact ⟨i+1,kk,by simp,rfl,by omega,HK2,HFa,hB⟩
       case measure=>omega
     ·obtain rfl:i=15:=by omega
      obtain ⟨a0,a1,a2,a3,a4,a5⟩:=p4.three;obtain ⟨c0,c1,c2,c3,c4,c5⟩:=p9.three;generalize hk4:w.heap.size=k4 at *;have hn1:¬ (k4=k4+1):=by omega
      have hK:=HK.out;have eT:Wlx.singles.take 15=Wlx.singles:=rfl;rw [eT] at hK;by_cases hcs:c ∈ Wlx.singles
      ·rw [if_pos hcs] at hK;subst hK;have HP:Hid (∀ e,e=.returned (.tuple #[.agg #[.int .i64 5,.string (b.extract q (q+1)),.int .i64 q],.int .i64 ((q+1:Nat):Int),.int .i64 0,.int .i64 0])->zAY q (c::t) e):=HF1.out hcs;clear HK HF1 HF0 HFa p4 p9 eT hcs NE;go_wp2;refine bodyPost_ret (v:=.tuple #[.agg #[.int .i64 5,.string (b.extract q (q+1)),.int .i64 q],.int .i64 ((q:Int)+1),.int .i64 0,.int .i64 0]) (by simp [results,results60,go_sem, *]) rfl ⟨HP.out _ (by simp),?_⟩;rw [hk4];exact zAe (k:=k4) (hB.setCell (p:=⟨k4+1,1,none⟩) (by show k4<=k4+1;omega) _) (Nat.le_refl _) _ _ _
      ·rw [if_neg hcs] at hK;subst hK;have HP:Hid (zAY q (c::t) (.returned (.tuple #[.agg #[.int .i64 0,.string ⟨#[]⟩,.int .i64 q],.int .i64 0,.int .i64 40,.int .i64 q]))):=HF0.out hcs;clear HK HF1 HF0 HFa p4 p9 eT hcs NE;go_wp2;refine bodyPost_ret (v:=.tuple #[.agg #[.int .i64 0,.string ⟨#[]⟩,.int .i64 q],.int .i64 0,.int .i64 40,.int .i64 q]) (by simp [results,results60,go_sem, *]) rfl ⟨HP.out,?_⟩;rw [hk4];exact zAe (k:=k4) hB (Nat.le_refl _) _ _ _
theorem zHw (b:ByteArray) (q:Nat) (c:UInt8) (t:List UInt8) (w:World) (hs:b.size<=1024) (hq:q<b.size) (hd:b.data.toList.drop q=c::t) (h32:¬ c=32):Calls prog 60 #[.string b,.int .i64 q] w λe w'=>zAY q (c::t) e/\Below w.heap.size w w':=by
 cases hdg:Wlx.dig c with
 | true=>exact zOY b q c t w hs hq hd hdg
 | false =>
  by_cases h34:c=34
  ·subst h34;exact zLs b q t w hs hq hd
  ·cases hw:Wlx.wrd c with
   | true=>exact zL7 b q c t w hs hq hd hw hdg
   | false =>
    by_cases h35:c=35
    ·subst h35;exact zJF b q t w hs hq hd
    ·exact zLN b q c t w hs hq hd hw h34 h35 h32
theorem zFO (b:ByteArray) (w:World) (hs:b.size<=9223372036854775807):Calls prog 39 #[.string b] w λe w'=>zDM w.heap.size (zAX b.data.toList) e w'/\Below w.heap.size w w':=by
 by_cases hL:1024<b.size
 ·have E:Hid (zAX b.data.toList=Wlx.Res.err 2 0):=by
   show _=_;unfold zAX;rw [if_pos (by exact hL)]
  have hLi:(1024:Int)<(b.size:Int):=by omega
  go_enter func39,ntmps39;go_wp2;go_ret3
  refine ⟨?_,Below.refl _ _⟩;rw [E.out];rfl
 ·have E0:Hid (zAX b.data.toList=Wlx.scan 0 (b.data.toList.drop 0)):=by
   show _=_;unfold zAX;rw [if_neg (by exact hL)];rfl
  have hLi:¬ (1024:Int)<(b.size:Int):=by omega
  have hL2:b.size<=1024:=by omega
  obtain ⟨R,hR⟩:∃ R,zAX b.data.toList=R:=⟨_,rfl⟩
  rw [hR] at E0 ⊢;clear hR;obtain ⟨i0,hi,hz0,hz1,hz2⟩:=info_parts zKH;have HO0:Hid (zEE w w.heap.size (.slice none 0 0) []):=World.ownsRow_nil _ _ _ _;go_enter func39,ntmps39;go_wp2_with fail
  go_loopg [5,6] (b.size) (λgk x y wr=>∃ (pos:Nat) (acc:List Wlx.Tok),y=.int .i64 pos/\gk=b.size - pos/\pos<=b.size/\Hid (R=Wlx.Res.pre acc (Wlx.scan pos (b.data.toList.drop pos)))/\Hid (zEE wr w.heap.size x acc)/\acc.length<=pos/\Below w.heap.size w wr)
  case atStart=>exact ⟨0,[],rfl,rfl,Nat.zero_le _,E0,HO0,Nat.le_refl _,Below.refl _ _⟩
  case round =>
   clear HO0 E0;obtain ⟨q,acc,rfl,hg,hq,HR,HO,hac,hb⟩:=hrel;have sw:=hb.size;by_cases hlt:q<b.size
   ·have hli:(q:Int)<(b.size:Int):=by omega
    have hd:=zA7 b q hlt;obtain ⟨c,hc⟩:∃ c,b[q]=c:=⟨_,rfl⟩
    obtain ⟨t,ht⟩:∃ t,b.data.toList.drop (q+1)=t:=⟨_,rfl⟩
    rw [hc,ht] at hd;have eb:(((b[q]).toNat:Nat):Int)=((c.toNat:Nat):Int):=by rw [hc]
    have hsz:=zDU hq hd;simp only [List.length_cons] at hsz;by_cases h32:c=32
    ·have E:Hid (R=Wlx.Res.pre acc (Wlx.scan (q+1) (b.data.toList.drop (q+1)))):=by
      show _=_;rw [HR.out,hd,h32,Wlx.scan_blank,ht]
     have e32:(((c.toNat:Nat):Int) == 32)=true:=by rw [h32];rfl
     clear HR hd hc ht h32;go_wp2_with fail
     go_roundg (b.size - (q+1))
     case rel=>exact ⟨q+1,acc,by simp,rfl,hlt,E,HO,by omega,hb⟩
     case measure=>omega
    ·have e32:(((c.toNat:Nat):Int) == 32)=false:=by
      refine beq_eq_false_iff_ne.2 (λe=>h32 ?_);have:c.toNat=32:=by omega
      exact UInt8.toNat_inj.1 this
     have ON:=λw=>zHw b q c t w hL2 hlt hd h32
     have Hd:Hid (b.data.toList.drop q=c::t):=hd;have H32:Hid (¬ c=32):=h32;clear hd hc ht h32;go_wp2_with fail
     refine (ON _).mono ?_;rintro e w1 ⟨hp,hb1⟩;have hB1:Below w.heap.size w w1:=hb.trans (hb1.mono sw);have own1:zEE w1 w.heap.size u5 acc:=zFR HO.out hb1;clear HO ON hb1;rcases hp with ⟨h6,k0,s0,rfl⟩ | ⟨h6,hbad,k0,s0,rfl⟩ | ⟨h6,hbad,rfl⟩
     ·have E:Hid (R=Wlx.Res.err (if (c::t).head? = some 34 then 41 else 40) q):=by
       show _=_
       rw [HR.out,Hd.out,Wlx.scan_none H32.out h6,Wlx.Res.pre_err];simp only [List.head?_cons,Option.some.injEq]
      have hcn:(((if (c::t).head? = some 34 then 41 else 40:Nat):Int) != 0)=true:=by split <;> rfl
      generalize (if (c::t).head? = some 34 then 41 else 40:Nat)=er at *;clear HR h6 own1 Hd H32;go_wp2;go_ret3
      refine ⟨by rw [E.out];rfl,hB1.alloc hB1.size _⟩
     ·have E:Hid (R=Wlx.Res.err 40 (q+Wlx.runP Wlx.prt ((c::t).take (Wlx.sz (Wlx.hit (c::t)) (c::t))))):=by
       show _=_
       rw [HR.out,Hd.out,Wlx.scan_bad H32.out rfl h6 rfl hbad,Wlx.Res.pre_err]
      generalize q+Wlx.runP Wlx.prt ((c::t).take (Wlx.sz (Wlx.hit (c::t)) (c::t)))=er at *;clear HR h6 own1 Hd H32 hbad;go_wp2;go_ret3
      refine ⟨by rw [E.out];rfl,hB1.alloc hB1.size _⟩
     ·obtain ⟨k,hk⟩:∃ k,Wlx.hit (c::t)=k:=⟨_,rfl⟩
      obtain ⟨n,hn⟩:∃ n,Wlx.sz k (c::t)=n:=⟨_,rfl⟩
      rw [hk] at h6 hbad ⊢;rw [hn] at hbad ⊢;obtain ⟨tx,htx⟩:∃ tx,Wlx.said k ((c::t).take n)=tx:=⟨_,rfl⟩
      rw [htx];have hnp:0<n:=by rw [<-hn,<-hk];exact Wlx.hit_pos (by rw [hk];exact h6)
      have hnl:n<=t.length+1:=by rw [<-hn];exact Wlx.sz_le _ _
      have E:Hid (R=Wlx.Res.pre (acc++[⟨k,tx,q⟩]) (Wlx.scan (q+n) (b.data.toList.drop (q+n)))):=by
       show _=_
       rw [HR.out,Hd.out,Wlx.scan_tok H32.out hk h6 hn hbad,Wlx.Res.pre_snoc,htx,<-Hd.out,List.drop_drop]
      clear HR h6 Hd H32 hbad hk hn htx;have s1:=hB1.size;go_wp2_with (at_builtin;refine wpList_append_own _ rfl _ _ 68 rfl w.heap.size 107 i0 (.agg #[.int .i64 0,.string ⟨#[]⟩,.int .i64 0]) 3 32 underlying68 hi hz0 hz1 hz2 rfl (by decide) _ _ _ rfl ((own1.alloc _).alloc _) ⟨w1.heap.size+1,0,none⟩ 1 1 [.int .i64 k,.string ⟨tx.toArray⟩,.int .i64 q] rfl rfl ?c1 ?c2 (by unfold maxLen;omega) (by omega) (by simp;omega) ?_)
      case c1 =>
       have:=zCK (w1.alloc (.cells #[.int .i64 k,.string ⟨tx.toArray⟩,.int .i64 q] 107)) (.int .i64 k) (.string ⟨tx.toArray⟩) (.int .i64 q) 107;simpa using this
      case c2=>intro u hu;simp at hu;rcases hu with rfl | rfl | rfl <;> rfl
      intro v2 w5 hown2 hgrow _;have hb5:Below w.heap.size w w5:=((hB1.alloc hB1.size _).alloc (by simp;omega) _).grown hgrow (by simp;omega) (λk hk=>(own1.lt k hk).1);have HO5:Hid (zEE w5 w.heap.size v2 (acc++[⟨k,tx,q⟩])):=by
       show w5.ownsRow _ _ 3 v2 (acc++[_]).length (zNB (acc++[_]))
       rw [List.length_append,zF6];exact hown2
      clear hown2 hgrow own1;go_wp2_with fail
      go_roundg (b.size - (q+n))
      case rel=>exact ⟨q+n,acc++[⟨k,tx,q⟩],by simp,rfl,by omega,E,HO5,by simp;omega,hb5⟩
      case measure=>omega
   ·have hli:¬ (q:Int)<(b.size:Int):=by omega
    have E:Hid (R=Wlx.Res.ok acc):=by
     show _=_
     rw [HR.out,zAk b q hlt,Wlx.scan_nil,Wlx.Res.pre_ok,List.append_nil]
    clear HR;go_wp2;go_ret3
    refine ⟨?_,hb⟩;rw [E.out];exact ⟨_,rfl,HO.out⟩
open Go.RowKit Go.Shelf
theorem zGw {tn lo kp:Nat} {en:Int} {E Bad:Int} (h:RS tn lo kp en w ts E Bad):∃ a:Nat,w.cell? ⟨kp,1,none⟩=some (.int .i64 (a:Int))/\w.cell? ⟨kp,3,none⟩=some (.int .i64 E)/\w.cell? ⟨kp,4,none⟩=some (.int .i64 Bad)/\(ts=[]->¬ a<tn)/\(ts ≠ []->a<tn):=by
 obtain ⟨av,cap,T,a,e,h2,h3,h4,h5,h6,h7,h8⟩:=h;refine ⟨a,h6.2.1 1 _ rfl,h6.2.1 3 _ rfl,h6.2.1 4 _ rfl,λhz=>?_,λhz=>?_⟩
 ·intro hlt;rw [hz,List.drop_eq_nil_iff] at e;omega
 ·by_cases hlt:a<tn
  ·exact hlt
  ·rw [List.drop_eq_nil_of_le (by omega)] at e;exact absurd e.symm hz
theorem zHq (b:ByteArray) (w:World) (hs:b.size<=9223372036854775807) (c p:Nat) (hc:c ≠ 0) (hr:zAX b.data.toList=.inr (c,p)):CR 22 #[.string b] w (.tuple #[.slice none 0 0,.int .i64 (c:Int),.int .i64 (p:Int)]):=by
 have S:=zFO b w hs;rw [hr] at S;have hci:((c:Int) != 0)=true:=by simp;omega
 clear hr;go_enter func22,ntmps22;go_wp2_with fail
 refine S.mono ?_;rintro e w1 ⟨rfl,hb⟩;go_wp2;go_ret3
 exact ⟨rfl,hb⟩
theorem zJ2 {cap:Nat} {av:Option Addr} (en:Int) (own:OwnV w B (.slice av ts.length cap) ts) (h1024:ts.length<=1024) :
  RS ts.length (w.heap.size+1) w.heap.size en (w.alloc (.cells #[.slice av ts.length cap,.int .i64 0,.int .i64 en,.int .i64 0,.int .i64 0] 91)) ts 0 0:=by
 refine ⟨av,cap,ts,0,rfl,Nat.zero_le _,⟨h1024,rfl⟩,Nat.lt_succ_self _,by simp,AtL.new0 _ _ _,(RdV.own own).alloc _,λg e=>?_⟩;have:=(own.lt g (by rw [e];rfl)).2;omega
theorem zG3 (b:ByteArray) (w:World) (hs:b.size<=9223372036854775807) (ts:List Wlx.Tok) (hr:zAX b.data.toList=.inl ts) (RES:List Wt.Nd ⊕ (Int × Int)) (hres:RES=zI6 (b.size:Int) (ts.map Wlx.tv)) :
  Calls prog 22 #[.string b] w λe w'=>zBu w.heap.size RES e w'/\Below w.heap.size w w':=by
 have S:=zFO b w hs;rw [hr] at S;have hT:ts.length<=1024/\∀ t ∈ ts.map Wlx.tv,zAP t:=by
  have hbl:b.data.toList.length=b.size:=by rw [Array.length_toList];rfl
  unfold zAX at hr;split at hr
  ·cases hr
  ·rename_i h
   have:=zGl _ 0 b.data.toList (Nat.le_refl _) (by omega) ts hr;exact ⟨by omega,this.2⟩
 obtain ⟨hT1,hT2⟩:=hT;have hT3:(ts.map Wlx.tv).length<=1024:=by rw [List.length_map];exact hT1
 obtain ⟨T,hTe⟩:∃ T,ts.map Wlx.tv=T:=⟨_,rfl⟩
 have S:Calls prog 39 #[.string b] w λe w'=>(∃ v,e=.returned (.tuple #[v,.int .i64 0,.int .i64 0])/\OwnV w' w.heap.size v T)/\Below w.heap.size w w':=by
  refine S.mono ?_;rintro e w' ⟨⟨v,e1,own⟩,hb⟩;exact ⟨⟨v,e1,by rw [<-hTe];exact OwnV.of own⟩,hb⟩
 rw [hTe] at hT2 hT3 hres;have LV:=λlo kp en=>zK8 T.length lo kp en T.length
 unfold zI6 zI8 at hres;clear hr hTe hT1;have hft:=λrow rest=>zDp (b.size:Int) (10 * T.length+9) 0 T row rest hT2
 cases hl:lv (b.size:Int) (10 * T.length+9) 0 T with
 | inr q =>
  obtain ⟨c,p⟩:=q;rw [hl] at hres;have HRES:Hid (RES=.inr (c,p)):=hres;clear hres hft;go_enter func22,ntmps22;go_wp2_with fail
  refine S.mono ?_;rintro e w1 ⟨⟨v,rfl,own⟩,hb1⟩;obtain ⟨av,cap,rfl,-⟩:=own.form;have hR0:=zJ2 (b.size:Int) own hT3;have hbW:Below w.heap.size w (w1.alloc (.cells #[.slice av T.length cap,.int .i64 0,.int .i64 (b.size:Int),.int .i64 0,.int .i64 0] 91)):=zAI hb1 _;have hz1:=hb1.size;clear own hb1;go_upto_region 5 with fail
  have S2:=LV (w1.heap.size+1) w1.heap.size (b.size:Int) T (w1.alloc (.cells #[.slice av T.length cap,.int .i64 0,.int .i64 (b.size:Int),.int .i64 0,.int .i64 0] 91)) (Nat.le_refl _) hT2 hR0;rw [hl] at S2;generalize w1.alloc (.cells #[.slice av T.length cap,.int .i64 0,.int .i64 (b.size:Int),.int .i64 0,.int .i64 0] 91)=W at *;obtain ⟨kp,hkp⟩:∃ kp,w1.heap.size=kp:=⟨_,rfl⟩
  rw [hkp] at S2 hR0 hz1 ⊢;have hsW:=hbW.size;clear S LV hkp;go_wp2_with fail
  refine S2.mono ?_;rintro e w2 ⟨hg2,hc,vb,row,ts2,rfl,ownb,hrw,hRb⟩;obtain ⟨a,c1,c3,c4,-,-⟩:=zGw hRb;have hcb:(c == 0)=false:=by simpa using hc
  have hcn:(c != 0)=true:=by simpa using hc
  have hBW:Below w.heap.size w w2:=hbW.grown hg2 (by omega) (λk e=>by have:=Option.some.inj e;omega);clear S2 hg2 ownb;go_wp2_with fail
  go_quiet (fail)
  have hb9:Below w2.heap.size w2 (w2.drewN nq):=zAG (Below.refl _ _) nq;go_wp2;go_ret3
  rw [HRES.out];exact ⟨rfl,(hBW).trans (hb9.mono hBW.size)⟩
 | inl q =>
  obtain ⟨row,rest⟩:=q;rw [hl] at hres;obtain ⟨hF,hlen⟩:=hft row rest hl;clear hft;cases rest with
  | nil =>
   have HRES:Hid (RES=if Wt.check row=0 then .inl row else .inr (Wt.check row,0)):=hres;clear hres;go_enter func22,ntmps22;go_wp2_with fail
   refine S.mono ?_;rintro e w1 ⟨⟨v,rfl,own⟩,hb1⟩;obtain ⟨av,cap,rfl,-⟩:=own.form;have hR0:=zJ2 (b.size:Int) own hT3;have hbW:Below w.heap.size w (w1.alloc (.cells #[.slice av T.length cap,.int .i64 0,.int .i64 (b.size:Int),.int .i64 0,.int .i64 0] 91)):=zAI hb1 _;have hz1:=hb1.size;clear own hb1;go_upto_region 5 with fail
   have S2:=LV (w1.heap.size+1) w1.heap.size (b.size:Int) T (w1.alloc (.cells #[.slice av T.length cap,.int .i64 0,.int .i64 (b.size:Int),.int .i64 0,.int .i64 0] 91)) (Nat.le_refl _) hT2 hR0;rw [hl] at S2;generalize w1.alloc (.cells #[.slice av T.length cap,.int .i64 0,.int .i64 (b.size:Int),.int .i64 0,.int .i64 0] 91)=W at *;obtain ⟨kp,hkp⟩:∃ kp,w1.heap.size=kp:=⟨_,rfl⟩
   rw [hkp] at S2 hR0 hz1 ⊢;have hsW:=hbW.size;clear S LV hkp;go_wp2_with fail
   refine S2.mono ?_;rintro e w2 ⟨hg2,vb,rfl,ownb,hRb⟩;obtain ⟨a,c1,c3,c4,hn1,-⟩:=zGw hRb;have hal:=hn1 rfl;have hali:¬ (a:Int)<(T.length:Int):=by omega
   have hald:decide (a<T.length)=false:=by simpa using hal
   have hBW:Below w.heap.size w w2:=hbW.grown hg2 (by omega) (λk e=>by have:=Option.some.inj e;omega);obtain ⟨avb,cb,rfl,hrb⟩:=ownb.form;have CK:=zCt avb cb row w2 (by simp only [List.length_nil] at hlen;omega) hF hrb;have HO:Hid (OwnN w2 W.heap.size (.slice avb row.length cb) row):=ownb;clear S2 hg2 ownb hrb hn1;by_cases hck:Wt.check row=0
   ·rw [hck] at CK HRES;go_wp2_with fail
    refine CK.mono ?_;rintro e w3 ⟨rfl,hb3⟩;go_wp2;go_ret3
    rw [HRES.out];exact ⟨⟨_,rfl,zBc (HO.out.below hb3) hsW⟩,zAA hBW hb3⟩
   ·have hcn:(Wt.check row != 0)=true:=by simpa using hck
    rw [if_neg hck] at HRES;generalize Wt.check row=ck at *;go_wp2_with fail
    refine CK.mono ?_;rintro e w3 ⟨rfl,hb3⟩;go_wp2;go_ret3
    rw [HRES.out];exact ⟨rfl,zAA hBW hb3⟩
  | cons t r =>
   have HRES:Hid (RES=.inr (50,pos (t::r) (b.size:Int))):=hres;clear hres;go_enter func22,ntmps22;go_wp2_with fail
   refine S.mono ?_;rintro e w1 ⟨⟨v,rfl,own⟩,hb1⟩;obtain ⟨av,cap,rfl,-⟩:=own.form;have hR0:=zJ2 (b.size:Int) own hT3;have hbW:Below w.heap.size w (w1.alloc (.cells #[.slice av T.length cap,.int .i64 0,.int .i64 (b.size:Int),.int .i64 0,.int .i64 0] 91)):=zAI hb1 _;have hz1:=hb1.size;clear own hb1;go_upto_region 5 with fail
   have S2:=LV (w1.heap.size+1) w1.heap.size (b.size:Int) T (w1.alloc (.cells #[.slice av T.length cap,.int .i64 0,.int .i64 (b.size:Int),.int .i64 0,.int .i64 0] 91)) (Nat.le_refl _) hT2 hR0;rw [hl] at S2;generalize w1.alloc (.cells #[.slice av T.length cap,.int .i64 0,.int .i64 (b.size:Int),.int .i64 0,.int .i64 0] 91)=W at *;obtain ⟨kp,hkp⟩:∃ kp,w1.heap.size=kp:=⟨_,rfl⟩
   rw [hkp] at S2 hR0 hz1 ⊢;have hsW:=hbW.size;clear S LV hkp;go_wp2_with fail
   refine S2.mono ?_;rintro e w2 ⟨hg2,vb,rfl,ownb,hRb⟩;obtain ⟨a,c1,c3,c4,-,hn1⟩:=zGw hRb;have hal:=hn1 (by simp);have hali:(a:Int)<(T.length:Int):=by omega
   have F:=zAw T.length (kp+1) kp (b.size:Int) 50 w2 _ hRb;have hBW0:Below w.heap.size w w2:=hbW.grown hg2 (by omega) (λk e=>by have:=Option.some.inj e;omega);clear S2 hg2 ownb hn1;go_wp2_with fail
   refine F.mono ?_;rintro e w3 ⟨rfl,hR3,hg3⟩;have hBW:Below w.heap.size w w3:=hBW0.grown hg3 (by have:=hBW0.size;omega) (λk e=>by have:=Option.some.inj e;omega);clear c1 c3 c4 hBW0;obtain ⟨a3,d1,d3,d4,-,-⟩:=zGw hR3;go_wp2_with fail
   go_quiet (fail)
   have hb9:Below w3.heap.size w3 (w3.drewN nq):=zAG (Below.refl _ _) nq;go_wp2;go_ret3
   rw [HRES.out];exact ⟨rfl,(hBW).trans (hb9.mono hBW.size)⟩
theorem zIN (b:ByteArray) (w:World) (hs:b.size<=9223372036854775807):Calls prog 22 #[.string b] w λe w'=>zBu w.heap.size (zHB b.data.toList) e w'/\Below w.heap.size w w':=by
 unfold zHB;cases hr:zAX b.data.toList with
 | inr q =>
  obtain ⟨c,p⟩:=q;exact (zHq b w hs c p (zDX hr) hr).mono λe w' h=>⟨h.1,h.2⟩
 | inl ts =>
  have e:b.data.toList.length=b.size:=by rw [Array.length_toList];rfl
  rw [e];exact zG3 b w hs ts hr _ rfl
def RdI (w:World) (av:Option Addr) (ks:List Nat):Prop:=∀ i (h:i<ks.length),∃ bb off,av=some ⟨bb,off,none⟩/\w.cell? ⟨bb,off+i,none⟩=some (.int .i64 (ks[i]:Int))
theorem OwnI.form {v:Value} {ks:List Nat} (h:OwnI w B v ks):∃ av cap,v=.slice av ks.length cap/\RdI w av ks:=by
 rcases h.2 with ⟨e,h0⟩ | ⟨g,cap,cur,e,-,hcur,-,-,hlen,htk⟩
 ·have hk:ks.length=0:=by omega
  exact ⟨none,0,by rw [hk];exact e,λi hi=>absurd hi (by omega)⟩
 ·refine ⟨some ⟨g,0,none⟩,cap,e,λi hi=>⟨g,0,rfl,?_⟩⟩;have hg:=World.ownsRow.cellAt (e ▸ h) i (by omega);rw [Nat.zero_add,hg];simp [zNT,hi]
def TX (av:Option Addr) (cap:Nat) (L:List Wt.Nd) (f:Nat):Prop:=∀ (p s d:Nat) (w:World),Wt.one f (L.drop p)=some (s,d)->RdN w av L ->
 CR 42 #[.slice av L.length cap,.int .i64 p] w (.string ⟨(pr f 0 (L.drop p)).1.toArray⟩)
def PX (av:Option Addr) (cap:Nat) (L:List Wt.Nd) (f:Nat):Prop:=∀ (p s d:Nat) (least:Int) (w:World),Wt.one f (L.drop p)=some (s,d)->0<=least->least<=7->RdN w av L ->
 CR 67 #[.slice av L.length cap,.int .i64 p,.int .i64 (least+1)] w (.string ⟨(pr f least (L.drop p)).1.toArray⟩)
theorem zMv (h:Wt.one f (L.drop p)=some (s,d)):p<L.length:=by
 by_cases hp:p<L.length
 ·exact hp
 ·rw [List.drop_eq_nil_of_le (by omega)] at h;cases f <;> cases h
theorem zGV (h:Wt.right x=true):0<=tgh x/\tgh x<=7:=by
 rcases zFA (zBv h) with ⟨h7,-⟩ | ⟨h56,-⟩ | ⟨h05,-⟩ <;> omega
theorem zMT (h:Wt.one f (L.drop p)=some (s,d)) (hp:p<L.length) (hx:Wt.right L[p]=true) (least:Int):(pr f least (L.drop p)).1=if least<=tgh L[p] then (pr f 0 (L.drop p)).1 else 40::(pr f 0 (L.drop p)).1++[41]:=by
 have hd:=List.drop_eq_getElem_cons hp;rw [hd] at h ⊢;cases f with
 | zero=>cases h
 | succ f =>
  simp only [pr];rw [if_pos (zGV hx).1];split <;> rfl
theorem zNC {l:List Wt.Nd} (h:Wt.one f l=some (s,d)) (least:Int) (hl:l.length<=256):(pr f least l).1.length<=256000:=by
 have h1:=(zDn f l s d h least).2;have h2:=zD4 _ _ _ _ h;omega
theorem zJu (av:Option Addr) (cap:Nat) (L:List Wt.Nd) (hc:Wt.check L=0) (f:Nat) (T:TX av cap L f):PX av cap L f:=by
 intro p s d least w h h0 h7 hr;have hp:=zMv h;have hx:=zCR hc p hp;obtain ⟨bb,off,rfl,-⟩:=hr p hp;have HR:Hid (RdN w (some ⟨bb,off,none⟩) L):=hr;have TT:=λw hr=>T p s d w h hr
 have E:=zMT h hp hx least;have hlen:=zNC h 0 (by have:=(zA8 hc).1;rw [List.length_drop];omega);have B:=λw=>zET L[p] w hx
 have hRX:=λ(w:World) (hr:RdN w (some ⟨bb,off,none⟩) L)=>hr.at p hp
 generalize (pr f 0 (L.drop p)).1=lt at *;rw [E];generalize L[p]=x at *;obtain ⟨u,hu⟩:∃ u:ByteArray,(⟨lt.toArray⟩:ByteArray)=u:=⟨_,rfl⟩
 have us:(u.size:Int)<=256000:=by rw [<-hu];show ((lt.toArray.size:Nat):Int)<=256000;simp;omega
 have HU:Hid (⟨lt.toArray⟩=u):=hu;rw [hu] at TT;have T0:=TT w hr;clear T TT hr h E hu hlen hc;have hpi:(p:Int)<(L.length:Int):=by omega
 by_cases hl:least<=tgh x
 ·have hli:¬ tgh x+1<least+1:=by omega
  rw [if_pos hl,HU.out];go_enter func67,ntmps67;go_wp2_with fail
  refine T0.mono ?_;rintro e w1 ⟨rfl,hb⟩;have hx1:=hRX w1 (HR.out.below hb);go_wp2_with ((with_reducible refine wpList_load_mid (cs:=zAD x) ?_ 30 (.tmp 13) ?_ (bb) (off+p * 20) ?_ _ ?_ underlying30 ?_ ?_ ?_);rfl;rfl;rfl;exact hx1;rfl;kernel_rfl)
  refine (B _).mono ?_;rintro e w2 ⟨rfl,hb2⟩;have hB:=zAA hb hb2;go_wp2;go_ret;exact ⟨rfl,hB⟩
 ·have hli:tgh x+1<least+1:=by omega
  rw [if_neg hl];go_enter func67,ntmps67;go_wp2_with fail
  refine T0.mono ?_;rintro e w1 ⟨rfl,hb⟩;have hx1:=hRX w1 (HR.out.below hb);go_wp2_with ((with_reducible refine wpList_load_mid (cs:=zAD x) ?_ 30 (.tmp 13) ?_ (bb) (off+p * 20) ?_ _ ?_ underlying30 ?_ ?_ ?_);rfl;rfl;rfl;exact hx1;rfl;kernel_rfl)
  refine (B _).mono ?_;rintro e w2 ⟨rfl,hb2⟩;have hB:=zAA hb hb2;go_wp2;go_ret;refine ⟨congrArg (λx=>Ending.returned (Value.string x)) ?_,hB⟩;rw [<-HU.out,show (⟨#[40]⟩:ByteArray)=⟨[40].toArray⟩ from rfl,show (⟨#[41]⟩:ByteArray)=⟨[41].toArray⟩ from rfl,zBf,zBf];rfl
theorem zGi (F:Nat):∀ (k:Nat) (f p:Nat) (l:List Wt.Nd) (a b:Nat),Wt.many (Wt.one f) k l=some (a,b)->a<=F->zAy F k p l=zAy f k p l:=by
 intro k;induction k with
 | zero=>intro f p l a b h hF;rfl
 | succ k ih =>
  intro f p l a b h hF;simp only [Wt.many] at h;cases h1:Wt.one f l with
  | none=>rw [h1] at h;cases h
  | some q =>
   obtain ⟨s1,d1⟩:=q;rw [h1] at h;simp only at h;cases h2:Wt.many (Wt.one f) k (l.drop s1) with
   | none=>rw [h2] at h;cases h
   | some q2 =>
    obtain ⟨a2,b2⟩:=q2;rw [h2] at h;simp only [Option.some.injEq,Prod.mk.injEq] at h;obtain ⟨rfl,rfl⟩:=h;have hd:=(zCP f l s1 d1 h1).2.1;have hF1:Wt.one F l=some (s1,d1):=zGu h1 (by omega) rfl;simp only [zAy,h1,hF1];rw [ih f (p+s1) (l.drop s1) a2 b2 h2 (by omega)]
def zBe (f:Nat) (L:List Wt.Nd):Bool->List Nat->List UInt8
 | _,[]=>[]
 | first,q::r=>(if first then [] else [44])++(pr f 0 (L.drop q)).1++zBe f L false r
theorem zI5 (f:Nat) (L:List Wt.Nd):∀ (ks:List Nat) (first:Bool) (q:Nat),zBe f L first (ks++[q])=zBe f L first ks++(if first && ks.isEmpty then [] else [44])++(pr f 0 (L.drop q)).1:=by
 intro ks;induction ks with
 | nil=>intro first q;cases first <;> simp [zBe]
 | cons k r ih=>intro first q;simp only [List.cons_append,zBe,ih];cases first <;> simp
theorem zMX (L:List Wt.Nd) (f:Nat):∀ (k:Nat) (first:Bool) (p a b:Nat),Wt.many (Wt.one f) k (L.drop p)=some (a,b)->(prA (pr f) k first (L.drop p)).1=zBe f L first (zAy f k p (L.drop p)):=by
 intro k;induction k with
 | zero=>intro first p a b h;rfl
 | succ k ih =>
  intro first p a b h
  simp only [Wt.many] at h;cases h1:Wt.one f (L.drop p) with
  | none=>rw [h1] at h;cases h
  | some q =>
   obtain ⟨s1,d1⟩:=q;rw [h1] at h;simp only at h;cases h2:Wt.many (Wt.one f) k ((L.drop p).drop s1) with
   | none=>rw [h2] at h;cases h
   | some q2 =>
    obtain ⟨a2,b2⟩:=q2;have hp:=(zDn f _ _ _ h1 0).1;rw [List.drop_drop] at h2 hp;simp only [prA,zAy,h1,zBe,hp,List.drop_drop];rw [ih false (p+s1) a2 b2 h2]
theorem zGM (f:Nat):∀ (k p:Nat) (L:List Wt.Nd) (a b:Nat),Wt.many (Wt.one f) k (L.drop p)=some (a,b)->(zAy f k p (L.drop p)).length=k/\∀ q ∈ zAy f k p (L.drop p),∃ s d,Wt.one f (L.drop q)=some (s,d):=by
 intro k;induction k with
 | zero=>intro p L a b h;exact ⟨rfl,λq hq=>by simp [zAy] at hq⟩
 | succ k ih =>
  intro p L a b h;simp only [Wt.many] at h;cases h1:Wt.one f (L.drop p) with
  | none=>rw [h1] at h;cases h
  | some q =>
   obtain ⟨s1,d1⟩:=q;rw [h1] at h;simp only at h;cases h2:Wt.many (Wt.one f) k ((L.drop p).drop s1) with
   | none=>rw [h2] at h;cases h
   | some q2 =>
    obtain ⟨a2,b2⟩:=q2;rw [List.drop_drop] at h2;obtain ⟨i1,i2⟩:=ih (p+s1) L a2 b2 h2;simp only [zAy,h1,List.drop_drop];refine ⟨by rw [List.length_cons,i1],λq hq=>?_⟩;rcases List.mem_cons.1 hq with rfl | hq
    ·exact ⟨s1,d1,h1⟩
    ·exact i2 q hq
theorem zGX {n a b:Nat} (hp:p<L.length) (hn:(Wt.parts L[p]).toNat=n) (hm:Wt.many (Wt.one f) n (L.drop (p+1))=some (a,b)) (ha:a<=L.length+1):zF2 L p=zAy f n (p+1) (L.drop (p+1)):=by
 unfold zF2;rw [List.drop_eq_getElem_cons hp];simp only;rw [hn];exact zGi _ _ _ _ _ _ _ hm ha
theorem zSF {W:World} {k:Nat} (h:AtL W k (zAD x)):W.rangeAt k 1 (vl6 x.v):=h.sub 1 _ (λj v hv=>by
 match j,hv with
 | 0,hv=>exact hv
 | 1,hv=>exact hv
 | 2,hv=>exact hv
 | 3,hv=>exact hv
 | 4,hv=>exact hv
 | 5,hv=>exact hv
 | j+6,hv=>simp [vl6] at hv)
theorem zEH (h:Wt.vlOk v=true):¬ v.k=0/\Wv.right v.k v.n v.d v.t v.b v.f=true:=by
 unfold Wt.vlOk at h;split at h
 ·cases h
 ·split at h
  ·simp only [Bool.and_eq_true] at h;exact ⟨by assumption,h.1.1⟩
  ·exact ⟨by assumption,h⟩
theorem zJl (v:Wt.Vl) (w:World) (hv:Wt.vlOk v=true) (hf:Wt.FitV v) (h2:¬ v.k=2):CR 65 #[.agg (vl6 v).toArray] w (.string ⟨(zFx v).toArray⟩):=by
 obtain ⟨hk0,hr⟩:=zEH hv;have C:=λw=>zDg v w hf
 obtain ⟨k,n,d,t,b,f⟩:=v;obtain ⟨⟨a1,a2⟩,⟨a3,a4⟩,-⟩:=hf;unfold zFx;simp only [vl6] at *;by_cases h1:k=1
 ·subst h1;rw [if_pos rfl];exact zKv n d t b f w hr a1 a2 a3 a4 C
 by_cases h3:k=3
 ·subst h3;rw [if_neg (by decide),if_neg (by decide),if_pos rfl];exact zLw n d t b f w hr C
 by_cases h4:k=4
 ·subst h4;rw [if_neg (by decide),if_neg (by decide),if_neg (by decide)];have hf:1<=f/\f<=8:=by
   unfold Wv.right at hr;rw [if_neg (by decide),if_neg (by decide),if_neg (by decide),if_neg (by decide),if_pos rfl] at hr;unfold Wv.flt at hr;simp only [Bool.and_eq_true,decide_eq_true_eq] at hr;exact hr.1.1.1.1
  exact zLi n d t b f w hr hf.1 hf.2 C
 ·unfold Wv.right at hr;rw [if_neg hk0,if_neg h1,if_neg h2,if_neg h3,if_neg h4] at hr;cases hr
theorem zKi (hv:Wt.vlOk v=true) (h2:v.k=2):v.t.size<=256:=by
 have hr:=(zEH hv).2;unfold Wv.right at hr;rw [if_neg (by omega),if_neg (by omega),if_pos h2] at hr;simp only [Bool.and_eq_true,decide_eq_true_eq] at hr;exact hr.1.1.1.1.1
theorem zKQ (h2:v.k=2):zFx v=34::(Wlx.dbl v.t.data.toList++[34]):=by
 unfold zFx;rw [if_neg (by omega),if_pos h2]
