/- LRefC, LRefD, LRefE. -/
import Derived.Test.YtlggnpohhahdlaaGreatDoorQ43
set_option maxHeartbeats 1600000
set_option maxRecDepth 100000
namespace Go.Proofs.YtlggnpohhahdlaaGreatDoor
open Go.Shelf Go.RowKit
set_option linter.unusedVariables false
theorem results_tmp4 {fn:Func} {t u v x:Tmp} (h:fn.results=#[.tmp t,.tmp u,.tmp v,.tmp x]) (tmps:Array Value) (P:Program) (w:World) :
  (results fn tmps).run P w=.ok (.tuple #[tmps.getD t undef,tmps.getD u undef,tmps.getD v undef,tmps.getD x undef]) w:=by
 simp [results,h]
theorem rtext_walk (b:ByteArray) (q:Nat) (a:List UInt8) (w:World) (hs:b.size≤1024) (hq:q<b.size) (hd:b.data.toList.drop (q+1)=a):Calls Tryz.prog 65 #[.string b,.int .i64 q] w fun e w'=>TextPost q (34::a) e∧Below w.heap.size w w':=by
 obtain ⟨i0,hi,hz0,hz1,hz2⟩:=info_parts x4_byteInfo;have hsz:=size_of hq hd;have HD:Hid (b.data.toList.drop (q+1)=a):=hd;have own0:Hid (OwnB w w.heap.size (.slice none 0 0) []):=World.ownsRow_nil _ _ _ _;have hal:a.length≤1024:=by omega
 clear hd;go_enter Tryz.func65,Tryz.ntmps65;go_wp2_with fail
 go_loopg [8,9,10] (b.size - (q+1)) (fun gk y z t wr=>∃ (x r acc:List UInt8) (I:Nat) (bd:Int),t=.int .i64 I∧z=.int .i64 bd∧gk=b.size - I∧I≤b.size∧Hid (I=q+1+x.length)∧Hid (a=x++r)∧Hid (∀ z,Wlx.undbl (x++z)=acc++Wlx.undbl z)∧Hid (Wlx.quo true 1 a=Wlx.quo true (1+x.length) r)∧Hid (bd=Wlx.badV q x)∧Hid (OwnB wr w.heap.size y acc)∧acc.length≤x.length∧Below w.heap.size w wr)
 case atStart=>exact ⟨[],a,[],q+1,-1,by simp,rfl,rfl,hq,(rfl:q+1=q+1+([]:List UInt8).length),(rfl:a=[]++a),(fun z=>rfl:∀ z,Wlx.undbl ([]++z)=[]++Wlx.undbl z),(rfl:Wlx.quo true 1 a=Wlx.quo true (1+([]:List UInt8).length) a),(rfl:(-1:Int)=Wlx.badV q []),own0,Nat.le_refl _,Below.refl _ _⟩
 case round =>
  obtain ⟨x,r,acc,I,bd,rfl,rfl,hg,hIs,HI,HA,HU,HQ,HB,HO,hac,hb⟩:=hrel;have sw:=hb.size;have hxl:x.length≤1024:=by have:=congrArg List.length HA.out;rw [List.length_append] at this;omega
  have bb1:bd≤4096 ∧ -1≤bd:=by
   rw [HB.out];unfold Wlx.badV;have:=Wlx.runP_le Wlx.prt x;split <;> omega
  obtain ⟨bb1,bb2⟩:=bb1;cases r with
  | nil =>
   have hIe:I=b.size:=by have h1:=HI.out;have h2:=congrArg List.length HA.out;rw [List.append_nil] at h2;omega
   have hIi:¬ (I:Int)<(b.size:Int):=by omega
   have hIj:(b.size:Int)≤(I:Int):=by omega
   have HT:Hid (TextPost q (34::a) (.returned (.tuple #[.string ⟨#[]⟩,.int .i64 0,.int .i64 41,.int .i64 q]))):=Or.inl ⟨by show Wlx.quo true 1 a=0;rw [HQ.out];rfl,rfl⟩;clear HQ HU HB HA HI HO hIe;go_wp2;try simp only [Exit.inBlock,Exit.then]
   refine bodyPost_ret (results_tmp4 rfl _ _ _) rfl ?_;exact ⟨HT.out,hb⟩
  | cons c r =>
   obtain ⟨hIlt,hbc⟩:=byte_of (HD.out.trans HA.out);have hIl:I<b.size:=by have h1:=HI.out;omega
   have hIi:(I:Int)<(b.size:Int):=by omega
   have hbI:b[I]=c:=by have h1:=HI.out;simp only [h1];exact hbc
   have eb:(((b[I]).toNat:Nat):Int)=((c.toNat:Nat):Int):=by rw [hbI]
   have own:=HO.out;have cb:=x4_byte_bd c;clear hbc HO hIlt hbI;by_cases hc:c=34
   ·subst hc;have e34:((((34:UInt8).toNat:Nat):Int))=34:=rfl;rw [e34] at eb;have fin:∀ y,Hid (a=x++34::y)→¬ y.head? = some 34→Hid (∀ e,((Wlx.badV q x<0∧e=.returned (.tuple #[.string ⟨acc.toArray⟩,.int .i64 ((q+1+x.length+1:Nat):Int),.int .i64 0,.int .i64 0])) ∨ (¬ Wlx.badV q x<0∧e=.returned (.tuple #[.string ⟨#[]⟩,.int .i64 0,.int .i64 40,.int .i64 (Wlx.badV q x)])))→TextPost q (34::a) e):=by
     intro y hy hh e he;rw [hy.out];refine text_end HU.out ?_ he;rw [←hy.out,HQ.out];have hr:r=y:=by
      have:=HA.out.symm.trans hy.out;have:=List.append_cancel_left this;exact (List.cons.inj this).2
     rw [hr,Wlx.quo_hit];show Wlx.quo false (1+x.length+1) y=_
     cases y with
     | nil=>show 1+x.length+1=_;omega
     | cons d y'=>rw [Wlx.quo_out (fun e=>hh (by rw [e];rfl))];omega
    by_cases hr34:r.head? = some 34
    ·obtain ⟨r',rfl⟩:∃ r',r=34::r':=by
      cases r with
      | nil=>cases hr34
      | cons d r'=>exact ⟨r',by rw [Option.some.inj hr34]⟩
     have hI1:I+1<b.size:=by
      have h1:=HI.out;have h2:=congrArg List.length HA.out;simp only [List.length_append,List.length_cons] at h2;omega
     have hI1i:(I:Int)+1<(b.size:Int):=by omega
     have hA1:b.data.toList.drop (q+1)=(x++[34])++34::r':=by rw [HD.out,HA.out];simp
     obtain ⟨_,hb1⟩:=byte_of hA1;have eb1:(((b[I+1]).toNat:Nat):Int)=34:=by
      have h1:=HI.out;have:b[I+1]=34:=by
       simp only [h1];simp only [List.length_append,List.length_cons,List.length_nil] at hb1;have e1:q+1+(x.length+(0+1))=q+1+x.length+1:=by omega
       simp only [e1] at hb1;exact hb1
      rw [this];rfl
     have HI2:Hid (I+1+1=q+1+(x++[34,34]).length):=by show _=_;rw [HI.out,List.length_append];simp;omega
     have HA2:Hid (a=(x++[34,34])++r'):=by show _=_;rw [HA.out];simp
     have HU2:Hid (∀ z,Wlx.undbl ((x++[34,34])++z)=(acc++[34])++Wlx.undbl z):=by
      intro z;rw [List.append_assoc,HU.out];show acc++Wlx.undbl (34::34::z)=_
      rw [Wlx.undbl_two];simp
     have HQ2:Hid (Wlx.quo true 1 a=Wlx.quo true (1+(x++[34,34]).length) r'):=by
      show _=_
      rw [HQ.out,Wlx.quo_hit,Wlx.quo_hit,List.length_append];rfl
     have HB2:Hid (bd=Wlx.badV q (x++[34,34])):=by
      show _=_
      rw [HB.out,show x++[34,34]=(x++[34])++[34] by simp,Wlx.badV_good (by decide),Wlx.badV_good (by decide)]
     clear fin hr34 hA1 hb1 HI HA HU HQ HB;by_cases hbd:bd<0
     ·go_wp2_with (at_builtin;refine wpList_append_own _ rfl _ _ 63 rfl w.heap.size 5 i0 (.int .u8 0) 1 1 Tryz.underlying63 hi hz0 hz1 hz2 rfl (by decide) _ _ _ rfl (own.alloc _) ⟨wr.heap.size,0,none⟩ 1 1 [.int .u8 34] rfl rfl (cell_one_new _ _ _) (by intro u hu;simp at hu;subst hu;rfl) (by unfold maxLen;omega) (by omega) (by simp;omega) ?_)
      intro v3 w3 hown3 hgrow3 _;have hb3:=grown_below hb sw own hgrow3;have HO3:Hid (OwnB w3 w.heap.size v3 (acc++[34])):=ownB_snoc (n:=0) hown3;clear hown3 hgrow3 own;go_wp2_with fail
      go_roundg (b.size - (I+1+1))
      case rel=>exact ⟨x++[34,34],r',acc++[34],I+1+1,bd,by simp,rfl,rfl,by omega,HI2,HA2,HU2,HQ2,HB2,HO3,by rw [List.length_append,List.length_append];simp only [List.length_cons,List.length_nil];omega,hb3⟩
      case measure=>omega
     ·go_wp2_with (at_builtin;refine wpList_append_own _ rfl _ _ 63 rfl w.heap.size 5 i0 (.int .u8 0) 1 1 Tryz.underlying63 hi hz0 hz1 hz2 rfl (by decide) _ _ _ rfl (own.alloc _) ⟨wr.heap.size,0,none⟩ 1 1 [.int .u8 34] rfl rfl (cell_one_new _ _ _) (by intro u hu;simp at hu;subst hu;rfl) (by unfold maxLen;omega) (by omega) (by simp;omega) ?_)
      intro v3 w3 hown3 hgrow3 _;have hb3:=grown_below hb sw own hgrow3;have HO3:Hid (OwnB w3 w.heap.size v3 (acc++[34])):=ownB_snoc (n:=0) hown3;clear hown3 hgrow3 own;go_wp2_with fail
      go_roundg (b.size - (I+1+1))
      case rel=>exact ⟨x++[34,34],r',acc++[34],I+1+1,bd,by simp,rfl,rfl,by omega,HI2,HA2,HU2,HQ2,HB2,HO3,by rw [List.length_append,List.length_append];simp only [List.length_cons,List.length_nil];omega,hb3⟩
      case measure=>omega
    ·have HF:=fin r HA hr34;have hnx:∀ h:I+1<b.size,¬ b[I+1]=34:=by
      intro h h34;apply hr34
      have h1:=HI.out;have h2:=congrArg List.length HA.out;simp only [List.length_append,List.length_cons] at h2;cases r with
      | nil=>simp only [List.length_nil] at h2;omega
      | cons d r' =>
       have hA1:b.data.toList.drop (q+1)=(x++[34])++d::r':=by rw [HD.out,HA.out];simp
       obtain ⟨_,hb1⟩:=byte_of hA1;simp only [List.length_append,List.length_cons,List.length_nil] at hb1;have e1:q+1+(x.length+(0+1))=q+1+x.length+1:=by omega
       simp only [e1] at hb1;simp only [h1] at h34;rw [←hb1,h34];rfl
     have hIge:¬ (b.size:Int)≤(I:Int):=by omega
     have hcv:=ownB_text own;have HZ:Hid ((I:Int)+1=((q+1+x.length+1:Nat):Int)):=by show _=_;have:=HI.out;omega
     have HBv:=HB;clear fin HA HU HQ hr34;by_cases hI1:I+1<b.size
     ·have hI1i:(I:Int)+1<(b.size:Int):=by omega
      have eb1:((((b[I+1]).toNat:Nat):Int) == 34)=false:=by
       refine beq_eq_false_iff_ne.2 (fun e=>hnx hI1 ?_);have:(b[I+1]).toNat=34:=by omega
       exact UInt8.toNat_inj.1 this
      clear hnx;by_cases hbd:bd<0
      ·have hbd2:¬ (0:Int)≤bd:=by omega
       go_wp2;try simp only [Exit.inBlock,Exit.then]
       refine bodyPost_ret (results_tmp4 rfl _ _ _) rfl ?_;exact ⟨HF.out _ (Or.inl ⟨by rw [←HB.out];exact hbd,congrArg (fun z=>Ending.returned (.tuple #[.string ⟨acc.toArray⟩,.int .i64 z,.int .i64 0,.int .i64 0])) HZ.out⟩),hb⟩
      ·have hbd2:(0:Int)≤bd:=by omega
       go_wp2;try simp only [Exit.inBlock,Exit.then]
       refine bodyPost_ret (results_tmp4 rfl _ _ _) rfl ?_;exact ⟨HF.out _ (Or.inr ⟨by rw [←HB.out];exact hbd,by rw [←HB.out];rfl⟩),hb⟩
     ·have hI1i:¬ (I:Int)+1<(b.size:Int):=by omega
      clear hnx;by_cases hbd:bd<0
      ·have hbd2:¬ (0:Int)≤bd:=by omega
       go_wp2;try simp only [Exit.inBlock,Exit.then]
       refine bodyPost_ret (results_tmp4 rfl _ _ _) rfl ?_;exact ⟨HF.out _ (Or.inl ⟨by rw [←HB.out];exact hbd,congrArg (fun z=>Ending.returned (.tuple #[.string ⟨acc.toArray⟩,.int .i64 z,.int .i64 0,.int .i64 0])) HZ.out⟩),hb⟩
      ·have hbd2:(0:Int)≤bd:=by omega
       go_wp2;try simp only [Exit.inBlock,Exit.then]
       refine bodyPost_ret (results_tmp4 rfl _ _ _) rfl ?_;exact ⟨HF.out _ (Or.inr ⟨by rw [←HB.out];exact hbd,by rw [←HB.out];rfl⟩),hb⟩
   ·have hc34:(((c.toNat:Nat):Int) == 34)=false:=by
     refine beq_eq_false_iff_ne.2 (fun e=>hc ?_);have:c.toNat=34:=by omega
     exact UInt8.toNat_inj.1 this
    have HI2:Hid (I+1=q+1+(x++[c]).length):=by show _=_;rw [HI.out,List.length_append];rfl
    have HA2:Hid (a=(x++[c])++r):=by show _=_;rw [HA.out];simp
    have HU2:Hid (∀ z,Wlx.undbl ((x++[c])++z)=(acc++[c])++Wlx.undbl z):=by
     intro z;rw [List.append_assoc,HU.out];show acc++Wlx.undbl (c::z)=_
     rw [Wlx.undbl_other hc];simp
    have HQ2:Hid (Wlx.quo true 1 a=Wlx.quo true (1+(x++[c]).length) r):=by
     show _=_
     rw [HQ.out,Wlx.quo_in hc,List.length_append];rfl
    by_cases hbd:bd<0
    ·by_cases hlo:((c.toNat:Nat):Int)<32
     ·have HB2:Hid ((I:Int)=Wlx.badV q (x++[c])):=by
       show _=_
       rw [Wlx.badV_bad (by unfold Wlx.prt;simp;omega) (by rw [←HB.out];exact hbd),HI.out]
      clear HI HA HU HQ HB hc;go_wp2_with (at_builtin;refine wpList_append_own _ rfl _ _ 63 rfl w.heap.size 5 i0 (.int .u8 0) 1 1 Tryz.underlying63 hi hz0 hz1 hz2 rfl (by decide) _ _ _ rfl (own.alloc _) ⟨wr.heap.size,0,none⟩ 1 1 [.int .u8 ((c.toNat:Nat):Int)] rfl rfl (cell_one_new _ _ _) (by intro u hu;simp at hu;subst hu;rfl) (by unfold maxLen;omega) (by omega) (by simp;omega) ?_)
      intro v3 w3 hown3 hgrow3 _;have hb3:=grown_below hb sw own hgrow3;have HO3:Hid (OwnB w3 w.heap.size v3 (acc++[c])):=ownB_snoc (n:=0) hown3;clear hown3 hgrow3 own;go_wp2_with fail
      go_roundg (b.size - (I+1))
      case rel=>exact ⟨x++[c],r,acc++[c],I+1,(I:Int),by simp,rfl,rfl,by omega,HI2,HA2,HU2,HQ2,HB2,HO3,by rw [List.length_append,List.length_append];simp only [List.length_cons,List.length_nil];omega,hb3⟩
      case measure=>omega
     ·by_cases hhi:(126:Int)<((c.toNat:Nat):Int)
      ·have HB2:Hid ((I:Int)=Wlx.badV q (x++[c])):=by
        show _=_
        rw [Wlx.badV_bad (by unfold Wlx.prt;simp;omega) (by rw [←HB.out];exact hbd),HI.out]
       clear HI HA HU HQ HB hc;go_wp2_with (at_builtin;refine wpList_append_own _ rfl _ _ 63 rfl w.heap.size 5 i0 (.int .u8 0) 1 1 Tryz.underlying63 hi hz0 hz1 hz2 rfl (by decide) _ _ _ rfl (own.alloc _) ⟨wr.heap.size,0,none⟩ 1 1 [.int .u8 ((c.toNat:Nat):Int)] rfl rfl (cell_one_new _ _ _) (by intro u hu;simp at hu;subst hu;rfl) (by unfold maxLen;omega) (by omega) (by simp;omega) ?_)
       intro v3 w3 hown3 hgrow3 _;have hb3:=grown_below hb sw own hgrow3;have HO3:Hid (OwnB w3 w.heap.size v3 (acc++[c])):=ownB_snoc (n:=0) hown3;clear hown3 hgrow3 own;go_wp2_with fail
       go_roundg (b.size - (I+1))
       case rel=>exact ⟨x++[c],r,acc++[c],I+1,(I:Int),by simp,rfl,rfl,by omega,HI2,HA2,HU2,HQ2,HB2,HO3,by rw [List.length_append,List.length_append];simp only [List.length_cons,List.length_nil];omega,hb3⟩
       case measure=>omega
      ·have HB2:Hid (bd=Wlx.badV q (x++[c])):=by
        show _=_
        rw [Wlx.badV_good (by unfold Wlx.prt;simp;omega),HB.out]
       clear HI HA HU HQ HB hc;go_wp2_with (at_builtin;refine wpList_append_own _ rfl _ _ 63 rfl w.heap.size 5 i0 (.int .u8 0) 1 1 Tryz.underlying63 hi hz0 hz1 hz2 rfl (by decide) _ _ _ rfl (own.alloc _) ⟨wr.heap.size,0,none⟩ 1 1 [.int .u8 ((c.toNat:Nat):Int)] rfl rfl (cell_one_new _ _ _) (by intro u hu;simp at hu;subst hu;rfl) (by unfold maxLen;omega) (by omega) (by simp;omega) ?_)
       intro v3 w3 hown3 hgrow3 _;have hb3:=grown_below hb sw own hgrow3;have HO3:Hid (OwnB w3 w.heap.size v3 (acc++[c])):=ownB_snoc (n:=0) hown3;clear hown3 hgrow3 own;go_wp2_with fail
       go_roundg (b.size - (I+1))
       case rel=>exact ⟨x++[c],r,acc++[c],I+1,bd,by simp,rfl,rfl,by omega,HI2,HA2,HU2,HQ2,HB2,HO3,by rw [List.length_append,List.length_append];simp only [List.length_cons,List.length_nil];omega,hb3⟩
       case measure=>omega
    ·have HB2:Hid (bd=Wlx.badV q (x++[c])):=by
      show _=_
      rw [Wlx.badV_old (by rw [←HB.out];exact hbd),HB.out]
     clear HI HA HU HQ HB hc;go_wp2_with (at_builtin;refine wpList_append_own _ rfl _ _ 63 rfl w.heap.size 5 i0 (.int .u8 0) 1 1 Tryz.underlying63 hi hz0 hz1 hz2 rfl (by decide) _ _ _ rfl (own.alloc _) ⟨wr.heap.size,0,none⟩ 1 1 [.int .u8 ((c.toNat:Nat):Int)] rfl rfl (cell_one_new _ _ _) (by intro u hu;simp at hu;subst hu;rfl) (by unfold maxLen;omega) (by omega) (by simp;omega) ?_)
     intro v3 w3 hown3 hgrow3 _;have hb3:=grown_below hb sw own hgrow3;have HO3:Hid (OwnB w3 w.heap.size v3 (acc++[c])):=ownB_snoc (n:=0) hown3;clear hown3 hgrow3 own;go_wp2_with fail
     go_roundg (b.size - (I+1))
     case rel=>exact ⟨x++[c],r,acc++[c],I+1,bd,by simp,rfl,rfl,by omega,HI2,HA2,HU2,HQ2,HB2,HO3,by rw [List.length_append,List.length_append];simp only [List.length_cons,List.length_nil];omega,hb3⟩
     case measure=>omega
def OnePost (q:Nat) (l:List UInt8) (e:Ending):Prop :=
 (Wlx.hit l=6∧∃ (k0:Int) (s0:ByteArray),e=.returned (.tuple #[.agg #[.int .i64 k0,.string s0,.int .i64 q],.int .i64 0,.int .i64 ((if l.head? = some 34 then 41 else 40:Nat):Int),.int .i64 q])) ∨
 (¬ Wlx.hit l=6∧Wlx.runP Wlx.prt (l.take (Wlx.sz (Wlx.hit l) l))<Wlx.sz (Wlx.hit l) l∧∃ (k0:Int) (s0:ByteArray),e=.returned (.tuple #[.agg #[.int .i64 k0,.string s0,.int .i64 q],.int .i64 0,.int .i64 40,.int .i64 ((q+Wlx.runP Wlx.prt (l.take (Wlx.sz (Wlx.hit l) l)):Nat):Int)])) ∨
 (¬ Wlx.hit l=6∧¬ Wlx.runP Wlx.prt (l.take (Wlx.sz (Wlx.hit l) l))<Wlx.sz (Wlx.hit l) l∧e=.returned (.tuple #[.agg #[.int .i64 (Wlx.hit l),.string ⟨(Wlx.said (Wlx.hit l) (l.take (Wlx.sz (Wlx.hit l) l))).toArray⟩,.int .i64 q],.int .i64 ((q+Wlx.sz (Wlx.hit l) l:Nat):Int),.int .i64 0,.int .i64 0]))
theorem post_plain {q k n:Nat} {c:UInt8} {t:List UInt8} {e:Ending} (h32:¬ c=32) (hk:Wlx.hit (c::t)=k) (h6:¬ k=6) (h2:¬ k=2) (hn:Wlx.sz k (c::t)=n) {s:ByteArray} (hs:s.data.toList=(c::t).take n)
  (he:e=.returned (.tuple #[.agg #[.int .i64 k,.string s,.int .i64 q],.int .i64 ((q+n:Nat):Int),.int .i64 0,.int .i64 0])):OnePost q (c::t) e:=by
 subst hk hn;have ha:=Wlx.at_of h32 h6;have hl:((c::t).take (Wlx.sz (Wlx.hit (c::t)) (c::t))).length=Wlx.sz (Wlx.hit (c::t)) (c::t):=by
  rw [List.length_take];exact Nat.min_eq_left (Wlx.sz_le _ _)
 refine Or.inr (Or.inr ⟨h6,fun hb=>h2 (Wlx.bad_text ha (by rw [hl];exact hb)),?_⟩);rw [he];have es:s=⟨(Wlx.said (Wlx.hit (c::t)) ((c::t).take (Wlx.sz (Wlx.hit (c::t)) (c::t)))).toArray⟩:=by
  unfold Wlx.said;rw [if_neg h2,←hs]
 rw [es]
theorem one_num (b:ByteArray) (q:Nat) (c:UInt8) (t:List UInt8) (w:World) (hs:b.size≤1024) (hq:q<b.size) (hd:b.data.toList.drop q=c::t) (hc:Wlx.dig c=true):Calls Tryz.prog 41 #[.string b,.int .i64 q] w fun e w'=>OnePost q (c::t) e∧Below w.heap.size w w':=by
 obtain ⟨_,hbq⟩:=byte_of (x:=[]) (y:=t) (c:=c) hd;have hbq:b[q]=c:=hbq;have eb:(((b[q]).toNat:Nat):Int)=((c.toNat:Nat):Int):=by rw [hbq]
 have D0:=fun w=>rdigit_any c w
 rw [hc] at D0;obtain ⟨d,hdd⟩:∃ d,Wlx.runP Wlx.dig (c::t)=d:=⟨_,rfl⟩
 have hdl:d≤t.length+1:=by rw [←hdd];exact Wlx.runP_le _ _
 have hd1:1≤d:=by rw [←hdd,Wlx.runP_pos hc];omega
 have hsz:=size_of (by omega:q≤b.size) hd;simp only [List.length_cons] at hsz;have D1:=fun w=>x4_rdigits_any b q w (by omega) hs
 rw [hd,hdd] at D1;have hqi:(q:Int)<(b.size:Int):=by omega
 have hcls:=Wlx.cls c;have h32:¬ c=32:=(hcls.1 (hcls.2.1 hc)).2.2.2.1;have hhit:Wlx.hit (c::t)=1:=Wlx.hit_of (Or.inl ⟨rfl,hc⟩) (Wlx.numSz_pos.2 hc);have hN:Wlx.sz 1 (c::t)=Wlx.numTl d ((c::t).drop d):=by
  show Wlx.numSz (c::t)=_
  unfold Wlx.numSz;rw [hdd,if_neg (by omega)]
 have hdrop:b.data.toList.drop (q+d)=(c::t).drop d:=by rw [←List.drop_drop,hd]
 have FIN:Hid (∀ n e,Wlx.sz 1 (c::t)=n→n≤t.length+1→e=.returned (.tuple #[.agg #[.int .i64 1,.string (b.extract q (q+n)),.int .i64 q],.int .i64 ((q+n:Nat):Int),.int .i64 0,.int .i64 0])→OnePost q (c::t) e):=by
  intro n e h1 h2 h3;refine post_plain h32 hhit (by omega) (by omega) h1 (s:=b.extract q (q+n)) ?_ h3;rw [Lib.extract_data,hd,Nat.add_sub_cancel_left]
 have HN:Hid (Wlx.sz 1 (c::t)=Wlx.numTl d ((c::t).drop d)):=hN;have HDr:Hid (b.data.toList.drop (q+d)=(c::t).drop d):=hdrop;clear hdd hbq hcls h32 hhit hN hdrop hd hc;by_cases h1:q+d+1<b.size
 ·have h1i:(q:Int)+(d:Int)+1<(b.size:Int):=by omega
  have hl:=congrArg List.length HDr.out;have e2:b.data.toList.length=b.size:=rfl;rw [List.length_drop,e2] at hl;obtain ⟨x0,x1,z,hy⟩:∃ x0 x1 z,(c::t).drop d=x0::x1::z:=by
   match hm:(c::t).drop d,hl with
   | [],hl=>simp only [List.length_nil] at hl;omega
   | [x0],hl=>simp only [List.length_cons,List.length_nil] at hl;omega
   | x0::x1::z,_=>exact ⟨x0,x1,z,rfl⟩
  have hD:=HDr.out;rw [hy] at hD hl;simp only [List.length_cons] at hl;obtain ⟨_,hb0⟩:=byte_of (x:=[]) (y:=x1::z) (c:=x0) hD;obtain ⟨_,hb1⟩:=byte_of (x:=[x0]) (y:=z) (c:=x1) hD;have hb0:b[q+d]=x0:=hb0;have hb1:b[q+d+1]=x1:=hb1;have eb0:(((b[q+d]).toNat:Nat):Int)=((x0.toNat:Nat):Int):=by rw [hb0]
  have eb1:(((b[q+d+1]).toNat:Nat):Int)=((x1.toNat:Nat):Int):=by rw [hb1]
  have hN:=HN.out;rw [hy,Wlx.numTl_cons] at hN;have D2:=fun w=>rdigit_any x1 w
  have hqd:(q:Int)+(d:Int)<(b.size:Int):=by omega
  clear hb0 hb1 e2 hy HN HDr;by_cases h46:x0=46
  ·subst h46;have e46:((((46:UInt8).toNat:Nat):Int))=46:=rfl;rw [e46] at eb0;cases hdg:Wlx.dig x1 with
   | true =>
    rw [hdg] at D2;obtain ⟨m,hm⟩:∃ m,Wlx.runP Wlx.dig (x1::z)=m:=⟨_,rfl⟩
    have hm1:1≤m:=by rw [←hm,Wlx.runP_pos hdg];omega
    have hml:m≤z.length+1:=by rw [←hm];exact Wlx.runP_le _ _
    have hn:Wlx.sz 1 (c::t)=d+1+m:=by rw [hN,hm,if_pos ⟨rfl,by omega⟩]
    have D3:=fun w=>x4_rdigits_any b (q+d+1) w (by omega) hs
    have hD1:b.data.toList.drop (q+d+1)=x1::z:=by rw [←List.drop_drop,hD];rfl
    rw [hD1,hm] at D3;have HF:Hid (∀ e,e=.returned (.tuple #[.agg #[.int .i64 1,.string (b.extract q (q+(d+1+m))),.int .i64 q],.int .i64 ((q+(d+1+m):Nat):Int),.int .i64 0,.int .i64 0])→OnePost q (c::t) e):=fun e he=>FIN.out _ e hn (by omega) he
    obtain ⟨n,hnn⟩:∃ n,d+1+m=n:=⟨_,rfl⟩
    have hqn:q+d+1+m=q+n:=by omega
    rw [hqn] at D3;rw [hnn] at HF;have k1:(q:Int)≤(q:Int)+(n:Int):=by omega
    have k2:(q:Int)+(n:Int)≤(b.size:Int):=by omega
    have hc1:((q+d+1:Nat):Int)=(q:Int)+(d:Int)+1:=by omega
    rw [hc1] at D3;clear FIN hN hn hD hD1 hdg hm hnn hqn hc1 hl;go_enter Tryz.func41,Tryz.ntmps41;go_wp2_with fail
    refine (D0 _).mono ?_;rintro e w1 ⟨rfl,rfl⟩;go_wp2_with fail
    refine (D1 _).mono ?_;rintro e w1 ⟨rfl,rfl⟩;go_wp2_with fail
    refine (D2 _).mono ?_;rintro e w1 ⟨rfl,rfl⟩;go_wp2_with fail
    refine (D3 _).mono ?_;rintro e w1 ⟨rfl,rfl⟩;go_wp2;refine bodyPost_ret (v:=.tuple #[.agg #[.int .i64 1,.string (b.extract q (q+n)),.int .i64 q],.int .i64 ((q:Int)+(n:Int)),.int .i64 0,.int .i64 0]) (by simp [results,Tryz.results41,go_sem]) rfl ⟨HF.out _ (by simp),?_⟩;exact ((Below.refl _ w).alloc (Nat.le_refl _) _).alloc (by simp) _
   | false =>
    rw [hdg] at D2;have hn:Wlx.sz 1 (c::t)=d:=by rw [hN,Wlx.runP_neg hdg,if_neg (by omega)]
    have HF:Hid (∀ e,e=.returned (.tuple #[.agg #[.int .i64 1,.string (b.extract q (q+d)),.int .i64 q],.int .i64 ((q+d:Nat):Int),.int .i64 0,.int .i64 0])→OnePost q (c::t) e):=fun e he=>FIN.out d e hn hdl he
    have k1:(q:Int)≤(q:Int)+(d:Int):=by omega
    have k2:(q:Int)+(d:Int)≤(b.size:Int):=by omega
    clear FIN hN hn hD hdg hl;go_enter Tryz.func41,Tryz.ntmps41;go_wp2_with fail
    refine (D0 _).mono ?_;rintro e w1 ⟨rfl,rfl⟩;go_wp2_with fail
    refine (D1 _).mono ?_;rintro e w1 ⟨rfl,rfl⟩;go_wp2_with fail
    refine (D2 _).mono ?_;rintro e w1 ⟨rfl,rfl⟩;go_wp2;refine bodyPost_ret (v:=.tuple #[.agg #[.int .i64 1,.string (b.extract q (q+d)),.int .i64 q],.int .i64 ((q:Int)+(d:Int)),.int .i64 0,.int .i64 0]) (by simp [results,Tryz.results41,go_sem]) rfl ⟨HF.out _ (by simp),?_⟩;exact ((Below.refl _ w).alloc (Nat.le_refl _) _).alloc (by simp) _
  ·have e46:(((x0.toNat:Nat):Int) == 46)=false:=by
    refine beq_eq_false_iff_ne.2 (fun e=>h46 ?_);have:x0.toNat=46:=by omega
    exact UInt8.toNat_inj.1 this
   have hn:Wlx.sz 1 (c::t)=d:=by rw [hN,if_neg (fun h=>h46 h.1)]
   have HF:Hid (∀ e,e=.returned (.tuple #[.agg #[.int .i64 1,.string (b.extract q (q+d)),.int .i64 q],.int .i64 ((q+d:Nat):Int),.int .i64 0,.int .i64 0])→OnePost q (c::t) e):=fun e he=>FIN.out d e hn hdl he
   have k1:(q:Int)≤(q:Int)+(d:Int):=by omega
   have k2:(q:Int)+(d:Int)≤(b.size:Int):=by omega
   clear FIN hN hn hD h46 D2 hl;go_enter Tryz.func41,Tryz.ntmps41;go_wp2_with fail
   refine (D0 _).mono ?_;rintro e w1 ⟨rfl,rfl⟩;go_wp2_with fail
   refine (D1 _).mono ?_;rintro e w1 ⟨rfl,rfl⟩;go_wp2;refine bodyPost_ret (v:=.tuple #[.agg #[.int .i64 1,.string (b.extract q (q+d)),.int .i64 q],.int .i64 ((q:Int)+(d:Int)),.int .i64 0,.int .i64 0]) (by simp [results,Tryz.results41,go_sem]) rfl ⟨HF.out _ (by simp),?_⟩;exact ((Below.refl _ w).alloc (Nat.le_refl _) _).alloc (by simp) _
 ·have h1i:¬ (q:Int)+(d:Int)+1<(b.size:Int):=by omega
  have hn:Wlx.sz 1 (c::t)=d:=by
   rw [HN.out];have hl:=congrArg List.length HDr.out;have e2:b.data.toList.length=b.size:=rfl;rw [List.length_drop,e2] at hl;cases hy:(c::t).drop d with
   | nil=>rfl
   | cons x y =>
    rw [hy] at hl;simp only [List.length_cons] at hl;have:y=[]:=List.eq_nil_of_length_eq_zero (by omega);subst this;rw [Wlx.numTl_cons,if_neg (by simp [Wlx.runP])]
  have HF:Hid (∀ e,e=.returned (.tuple #[.agg #[.int .i64 1,.string (b.extract q (q+d)),.int .i64 q],.int .i64 ((q+d:Nat):Int),.int .i64 0,.int .i64 0])→OnePost q (c::t) e):=fun e he=>FIN.out d e hn hdl he
  have k1:(q:Int)≤(q:Int)+(d:Int):=by omega
  have k2:(q:Int)+(d:Int)≤(b.size:Int):=by omega
  clear FIN HN HDr hn;go_enter Tryz.func41,Tryz.ntmps41;go_wp2_with fail
  refine (D0 _).mono ?_;rintro e w1 ⟨rfl,rfl⟩;go_wp2_with fail
  refine (D1 _).mono ?_;rintro e w1 ⟨rfl,rfl⟩;go_wp2;refine bodyPost_ret (v:=.tuple #[.agg #[.int .i64 1,.string (b.extract q (q+d)),.int .i64 q],.int .i64 ((q:Int)+(d:Int)),.int .i64 0,.int .i64 0]) (by simp [results,Tryz.results41,go_sem]) rfl ⟨HF.out _ (by simp),?_⟩;exact ((Below.refl _ w).alloc (Nat.le_refl _) _).alloc (by simp) _
theorem hit_quote {t:List UInt8} (h:Wlx.txtSz (34::t)=0):Wlx.hit (34::t)=6:=by
 refine Wlx.hit_none fun j a b=>?_
 have:j=1 ∨ j=2 ∨ j=3 ∨ j=4 ∨ j=5:=by omega
 rcases this with rfl | rfl | rfl | rfl | rfl
 ·have:¬ 0<Wlx.numSz (34::t):=fun h=>absurd (Wlx.numSz_pos.1 h) (by decide)
  rw [Wlx.sz1];omega
 ·exact h
 ·have:¬ 0<Wlx.runP Wlx.wrd (34::t):=fun h=>absurd (Wlx.wrdSz_pos.1 h) (by decide)
  rw [Wlx.sz3];omega
 ·have:¬ 0<Wlx.nameSz (34::t) Wlx.faults:=fun h=>absurd (Wlx.faultSz_pos h) (by decide)
  rw [Wlx.sz4];omega
 ·have:¬ 0<Wlx.nameSz (34::t) Wlx.marks:=fun h=>absurd (Wlx.markSz_pos h) (by decide)
  rw [Wlx.sz5];omega
theorem one_text (b:ByteArray) (q:Nat) (t:List UInt8) (w:World) (hs:b.size≤1024) (hq:q<b.size) (hd:b.data.toList.drop q=34::t):Calls Tryz.prog 41 #[.string b,.int .i64 q] w fun e w'=>OnePost q (34::t) e∧Below w.heap.size w w':=by
 obtain ⟨_,hbq⟩:=byte_of (x:=[]) (y:=t) (c:=34) hd;have hbq:b[q]=34:=hbq;have eb:(((b[q]).toNat:Nat):Int)=34:=by rw [hbq];rfl
 have D0:=fun w=>rdigit_any 34 w
 have e34:((((34:UInt8).toNat:Nat):Int))=34:=rfl;have ed:Wlx.dig 34=false:=rfl;rw [e34,ed] at D0;have hqi:(q:Int)<(b.size:Int):=by omega
 have T:=fun w=>rtext_walk b q t w hs hq (by rw [←List.drop_drop,hd];rfl)
 have hn1:¬ (w.heap.size=w.heap.size+1):=by omega
 clear hbq hd e34 ed;go_enter Tryz.func41,Tryz.ntmps41;go_wp2_with fail
 refine (D0 _).mono ?_;rintro e w1 ⟨rfl,rfl⟩;go_wp2_with fail
 refine (T _).mono ?_;rintro e w1 ⟨hT,hb1⟩;have p4:AtL w1 w.heap.size [.int .i64 0,.string ⟨#[]⟩,.int .i64 0]:=AtL.below hb1 ((AtL.new0 w 79 [.int .i64 0,.string ⟨#[]⟩,.int .i64 0]).alloc _);have p9:AtL w1 (w.heap.size+1) [.int .i64 0,.string ⟨#[]⟩,.int .i64 q]:=AtL.below hb1 (AtL.new1 w _ 79 [.int .i64 0,.string ⟨#[]⟩,.int .i64 q]);have hB:Below w.heap.size w w1:=(((Below.refl _ w).alloc (Nat.le_refl _) _).alloc (by simp) _).trans (hb1.mono (by simp;omega));obtain ⟨a0,a1,a2,a3,a4,a5⟩:=p4.three;obtain ⟨c0,c1,c2,c3,c4,c5⟩:=p9.three;clear hb1 p4 p9 T D0;have ksz:=hB.size;generalize hk4:w.heap.size=k4 at *;rcases hT with ⟨hz,rfl⟩ | ⟨hz,hbad,rfl⟩ | ⟨hz,hbad,rfl⟩
 ·have HP:Hid (OnePost q (34::t) (.returned (.tuple #[.agg #[.int .i64 0,.string ⟨#[]⟩,.int .i64 q],.int .i64 0,.int .i64 41,.int .i64 q]))):=Or.inl ⟨hit_quote hz,0,⟨#[]⟩,rfl⟩;clear hz;go_wp2;refine bodyPost_ret (v:=.tuple #[.agg #[.int .i64 0,.string ⟨#[]⟩,.int .i64 q],.int .i64 0,.int .i64 41,.int .i64 q]) (by simp [results,Tryz.results41,go_sem, *]) rfl ⟨HP.out,?_⟩;rw [hk4];exact put3_below (k:=k4) hB (Nat.le_refl _) _ _ _
 ·have hh:Wlx.hit (34::t)=2:=Wlx.hit_of (Or.inr (Or.inl ⟨rfl,rfl⟩)) hz;obtain ⟨pl,hpl⟩:∃ pl,q+Wlx.runP Wlx.prt ((34::t).take (Wlx.txtSz (34::t)))=pl:=⟨_,rfl⟩
  have HP:Hid (OnePost q (34::t) (.returned (.tuple #[.agg #[.int .i64 0,.string ⟨#[]⟩,.int .i64 q],.int .i64 0,.int .i64 40,.int .i64 pl]))):=by
   refine Or.inr (Or.inl ⟨by omega,?_,0,⟨#[]⟩,?_⟩)
   ·rw [hh];exact hbad
   ·rw [hh,←hpl];rfl
  rw [hpl];clear hz hbad hh hpl;go_wp2;refine bodyPost_ret (v:=.tuple #[.agg #[.int .i64 0,.string ⟨#[]⟩,.int .i64 q],.int .i64 0,.int .i64 40,.int .i64 pl]) (by simp [results,Tryz.results41,go_sem, *]) rfl ⟨HP.out,?_⟩;rw [hk4];exact put3_below (k:=k4) hB (Nat.le_refl _) _ _ _
 ·have hh:Wlx.hit (34::t)=2:=Wlx.hit_of (Or.inr (Or.inl ⟨rfl,rfl⟩)) hz;obtain ⟨pl,hpl⟩:∃ pl,q+Wlx.txtSz (34::t)=pl:=⟨_,rfl⟩
  obtain ⟨S,hS⟩:∃ S:ByteArray,⟨(Wlx.said 2 ((34::t).take (Wlx.txtSz (34::t)))).toArray⟩=S:=⟨_,rfl⟩
  have HP:Hid (OnePost q (34::t) (.returned (.tuple #[.agg #[.int .i64 2,.string S,.int .i64 q],.int .i64 pl,.int .i64 0,.int .i64 0]))):=by
   refine Or.inr (Or.inr ⟨by omega,?_,?_⟩)
   ·rw [hh];exact hbad
   ·rw [hh,←hpl,←hS];rfl
  rw [hpl,hS];clear hz hbad hh hpl hS;go_wp2;refine bodyPost_ret (v:=.tuple #[.agg #[.int .i64 2,.string S,.int .i64 q],.int .i64 pl,.int .i64 0,.int .i64 0]) (by simp [results,Tryz.results41,go_sem, *]) rfl ⟨HP.out,?_⟩;rw [hk4];exact put3_below (k:=k4) ((hB.setCell (p:=⟨k4+1,0,none⟩) (by show k4≤k4+1;omega) _).setCell (p:=⟨k4+1,1,none⟩) (by show k4≤k4+1;omega) _) (Nat.le_refl _) _ _ _
end Go.Proofs.YtlggnpohhahdlaaGreatDoor
