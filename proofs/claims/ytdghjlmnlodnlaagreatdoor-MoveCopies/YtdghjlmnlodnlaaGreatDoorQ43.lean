/- LRefC, LRefD, LRefE, LRefF. -/
import Derived.Test.YtdghjlmnlodnlaaGreatDoorQ42
set_option maxHeartbeats 3200000
set_option maxRecDepth 100000
namespace Go.Proofs.YtdghjlmnlodnlaaGreatDoor
open Tryz
open Go.Shelf Go.RowKit
set_option linter.unusedVariables false
variable {t:List UInt8}
theorem zBG {fn:Func} {t u v x:Tmp} (h:fn.results=#[.tmp t,.tmp u,.tmp v,.tmp x]) (tmps:Array Value) (P:Program) (w:World) :
  (results fn tmps).run P w=.ok (.tuple #[tmps.getD t undef,tmps.getD u undef,tmps.getD v undef,tmps.getD x undef]) w:=by
 simp [results,h]
theorem zHn (b:ByteArray) (q:Nat) (a:List UInt8) (w:World) (hs:b.size<=1024) (hq:q<b.size) (hd:b.data.toList.drop (q+1)=a):Calls prog 92 #[.string b,.int .i64 q] w λe w'=>zCn q (34::a) e/\Below w.heap.size w w':=by
 obtain ⟨i0,hi,hz0,hz1,hz2⟩:=info_parts zDt;have hsz:=zDn hq hd;have HD:Hid (b.data.toList.drop (q+1)=a):=hd;have own0:Hid (zEJ w w.heap.size (.slice none 0 0) []):=World.ownsRow_nil _ _ _ _;have hal:a.length<=1024:=by omega
 clear hd;go_enter func92,ntmps92;go_wp2_with fail
 go_loopg [8,9,10] (b.size - (q+1)) (λgk y z t wr=>∃ (x r acc:List UInt8) (I:Nat) (bd:Int),t=.int .i64 I/\z=.int .i64 bd/\gk=b.size - I/\I<=b.size/\Hid (I=q+1+x.length)/\Hid (a=x++r)/\Hid (∀ z,Wlx.undbl (x++z)=acc++Wlx.undbl z)/\Hid (Wlx.quo true 1 a=Wlx.quo true (1+x.length) r)/\Hid (bd=Wlx.badV q x)/\Hid (zEJ wr w.heap.size y acc)/\acc.length<=x.length/\Below w.heap.size w wr)
 case atStart=>exact ⟨[],a,[],q+1,-1,by simp,rfl,rfl,hq,(rfl:q+1=q+1+([]:List UInt8).length),(rfl:a=[]++a),(λz=>rfl:∀ z,Wlx.undbl ([]++z)=[]++Wlx.undbl z),(rfl:Wlx.quo true 1 a=Wlx.quo true (1+([]:List UInt8).length) a),(rfl:(-1:Int)=Wlx.badV q []),own0,Nat.le_refl _,Below.refl _ _⟩
 case round =>
  obtain ⟨x,r,acc,I,bd,rfl,rfl,hg,hIs,HI,HA,HU,HQ,HB,HO,hac,hb⟩:=hrel;have sw:=hb.size;have hxl:x.length<=1024:=by have:=congrArg List.length HA.out;rw [List.length_append] at this;omega
  have bb1:bd<=4096 /\ -1<=bd:=by
   rw [HB.out];unfold Wlx.badV;have:=Wlx.runP_le Wlx.prt x;split <;> omega
  obtain ⟨bb1,bb2⟩:=bb1;cases r with
  | nil =>
   have hIe:I=b.size:=by have h1:=HI.out;have h2:=congrArg List.length HA.out;rw [List.append_nil] at h2;omega
   have hIi:¬ (I:Int)<(b.size:Int):=by omega
   have hIj:(b.size:Int)<=(I:Int):=by omega
   have HT:Hid (zCn q (34::a) (.returned (.tuple #[.string ⟨#[]⟩,.int .i64 0,.int .i64 41,.int .i64 q]))):=Or.inl ⟨by show Wlx.quo true 1 a=0;rw [HQ.out];rfl,rfl⟩;clear HQ HU HB HA HI HO hIe;go_wp2;try simp only [Exit.inBlock,Exit.then]
   refine bodyPost_ret (zBG rfl _ _ _) rfl ?_;exact ⟨HT.out,hb⟩
  | cons c r =>
   obtain ⟨hIlt,hbc⟩:=zBY (HD.out.trans HA.out);have hIl:I<b.size:=by have h1:=HI.out;omega
   have hIi:(I:Int)<(b.size:Int):=by omega
   have hbI:b[I]=c:=by have h1:=HI.out;simp only [h1];exact hbc
   have eb:(((b[I]).toNat:Nat):Int)=((c.toNat:Nat):Int):=by rw [hbI]
   have own:=HO.out;have cb:=zCE c;clear hbc HO hIlt hbI;by_cases hc:c=34
   ·subst hc;have e34:((((34:UInt8).toNat:Nat):Int))=34:=rfl;rw [e34] at eb;have fin:∀ y,Hid (a=x++34::y)->¬ y.head? = some 34->Hid (∀ e,((Wlx.badV q x<0/\e=.returned (.tuple #[.string ⟨acc.toArray⟩,.int .i64 ((q+1+x.length+1:Nat):Int),.int .i64 0,.int .i64 0])) \/ (¬ Wlx.badV q x<0/\e=.returned (.tuple #[.string ⟨#[]⟩,.int .i64 0,.int .i64 40,.int .i64 (Wlx.badV q x)])))->zCn q (34::a) e):=by
     intro y hy hh e he;rw [hy.out];refine zLY HU.out ?_ he;rw [<-hy.out,HQ.out];have hr:r=y:=by
      have:=HA.out.symm.trans hy.out;have:=List.append_cancel_left this;exact (List.cons.inj this).2
     rw [hr,Wlx.quo_hit];show Wlx.quo false (1+x.length+1) y=_
     cases y with
     | nil=>show 1+x.length+1=_;omega
     | cons d y'=>rw [Wlx.quo_out (λe=>hh (by rw [e];rfl))];omega
    by_cases hr34:r.head? = some 34
    ·obtain ⟨r',rfl⟩:∃ r',r=34::r':=by
      cases r with
      | nil=>cases hr34
      | cons d r'=>exact ⟨r',by rw [Option.some.inj hr34]⟩
     have hI1:I+1<b.size:=by
      have h1:=HI.out;have h2:=congrArg List.length HA.out;simp only [List.length_append,List.length_cons] at h2;omega
     have hI1i:(I:Int)+1<(b.size:Int):=by omega
     have hA1:b.data.toList.drop (q+1)=(x++[34])++34::r':=by rw [HD.out,HA.out];simp
     obtain ⟨_,hb1⟩:=zBY hA1;have eb1:(((b[I+1]).toNat:Nat):Int)=34:=by
      have h1:=HI.out;have:b[I+1]=34:=by
       simp only [h1];simp only [List.length_append,List.length_cons,List.length_nil] at hb1;have e1:q+1+(x.length+(0+1))=q+1+x.length+1:=by omega
       simp only [e1] at hb1;exact hb1
      rw [this];rfl
     have HI2:Hid (I+1+1=q+1+(x++[34,34]).length):=by show _=_;rw [HI.out,List.length_append];simp;omega
     have HA2:Hid (a=(x++[34,34])++r'):=by show _=_;rw [HA.out];simp
     have HU2:Hid (∀ z,Wlx.undbl ((x++[34,34])++z)=(acc++[34])++Wlx.undbl z):=by
      intro z;rw [List.append_assoc,HU.out];show acc++Wlx.undbl (34::34::z)=_
      rw [Wlx.undbl_two];simp
     have HQ2:Hid (Wlx.quo true 1 a=Wlx.quo true (1+(x++[34,34]).length) r'):=by
      show _=_
      rw [HQ.out,Wlx.quo_hit,Wlx.quo_hit,List.length_append];rfl
     have HB2:Hid (bd=Wlx.badV q (x++[34,34])):=by
      show _=_
      rw [HB.out,show x++[34,34]=(x++[34])++[34] by simp,Wlx.badV_good (by decide),Wlx.badV_good (by decide)]
     clear fin hr34 hA1 hb1 HI HA HU HQ HB;by_cases hbd:bd<0
     ·go_wp2_with (at_builtin;refine wpList_append_own _ rfl _ _ 82 rfl w.heap.size 5 i0 (.int .u8 0) 1 1 underlying82 hi hz0 hz1 hz2 rfl (by decide) _ _ _ rfl (own.alloc _) ⟨wr.heap.size,0,none⟩ 1 1 [.int .u8 34] rfl rfl (zA2 _ _ _) (by intro u hu;simp at hu;subst hu;rfl) (by unfold maxLen;omega) (by omega) (by simp;omega) ?_)
      intro v3 w3 hown3 hgrow3 _;have hb3:=zA7 hb sw own hgrow3;have HO3:Hid (zEJ w3 w.heap.size v3 (acc++[34])):=zAm (n:=0) hown3;clear hown3 hgrow3 own;go_wp2_with fail
      go_roundg (b.size - (I+1+1))
      case rel=>exact ⟨x++[34,34],r',acc++[34],I+1+1,bd,by simp,rfl,rfl,by omega,HI2,HA2,HU2,HQ2,HB2,HO3,by rw [List.length_append,List.length_append];simp only [List.length_cons,List.length_nil];omega,hb3⟩
      case measure=>omega
     ·go_wp2_with (at_builtin;refine wpList_append_own _ rfl _ _ 82 rfl w.heap.size 5 i0 (.int .u8 0) 1 1 underlying82 hi hz0 hz1 hz2 rfl (by decide) _ _ _ rfl (own.alloc _) ⟨wr.heap.size,0,none⟩ 1 1 [.int .u8 34] rfl rfl (zA2 _ _ _) (by intro u hu;simp at hu;subst hu;rfl) (by unfold maxLen;omega) (by omega) (by simp;omega) ?_)
      intro v3 w3 hown3 hgrow3 _;have hb3:=zA7 hb sw own hgrow3;have HO3:Hid (zEJ w3 w.heap.size v3 (acc++[34])):=zAm (n:=0) hown3;clear hown3 hgrow3 own;go_wp2_with fail
      go_roundg (b.size - (I+1+1))
      case rel=>exact ⟨x++[34,34],r',acc++[34],I+1+1,bd,by simp,rfl,rfl,by omega,HI2,HA2,HU2,HQ2,HB2,HO3,by rw [List.length_append,List.length_append];simp only [List.length_cons,List.length_nil];omega,hb3⟩
      case measure=>omega
    ·have HF:=fin r HA hr34;have hnx:∀ h:I+1<b.size,¬ b[I+1]=34:=by
      intro h h34;apply hr34
      have h1:=HI.out;have h2:=congrArg List.length HA.out;simp only [List.length_append,List.length_cons] at h2;cases r with
      | nil=>simp only [List.length_nil] at h2;omega
      | cons d r' =>
       have hA1:b.data.toList.drop (q+1)=(x++[34])++d::r':=by rw [HD.out,HA.out];simp
       obtain ⟨_,hb1⟩:=zBY hA1;simp only [List.length_append,List.length_cons,List.length_nil] at hb1;have e1:q+1+(x.length+(0+1))=q+1+x.length+1:=by omega
       simp only [e1] at hb1;simp only [h1] at h34;rw [<-hb1,h34];rfl
     have hIge:¬ (b.size:Int)<=(I:Int):=by omega
     have hcv:=zGA own;have HZ:Hid ((I:Int)+1=((q+1+x.length+1:Nat):Int)):=by show _=_;have:=HI.out;omega
     have HBv:=HB;clear fin HA HU HQ hr34;by_cases hI1:I+1<b.size
     ·have hI1i:(I:Int)+1<(b.size:Int):=by omega
      have eb1:((((b[I+1]).toNat:Nat):Int) == 34)=false:=by
       refine beq_eq_false_iff_ne.2 (λe=>hnx hI1 ?_);have:(b[I+1]).toNat=34:=by omega
       exact UInt8.toNat_inj.1 this
      clear hnx;by_cases hbd:bd<0
      ·have hbd2:¬ (0:Int)<=bd:=by omega
       go_wp2;try simp only [Exit.inBlock,Exit.then]
       refine bodyPost_ret (zBG rfl _ _ _) rfl ?_;exact ⟨HF.out _ (Or.inl ⟨by rw [<-HB.out];exact hbd,congrArg (λz=>Ending.returned (.tuple #[.string ⟨acc.toArray⟩,.int .i64 z,.int .i64 0,.int .i64 0])) HZ.out⟩),hb⟩
      ·have hbd2:(0:Int)<=bd:=by omega
       go_wp2;try simp only [Exit.inBlock,Exit.then]
       refine bodyPost_ret (zBG rfl _ _ _) rfl ?_;exact ⟨HF.out _ (Or.inr ⟨by rw [<-HB.out];exact hbd,by rw [<-HB.out];rfl⟩),hb⟩
     ·have hI1i:¬ (I:Int)+1<(b.size:Int):=by omega
      clear hnx;by_cases hbd:bd<0
      ·have hbd2:¬ (0:Int)<=bd:=by omega
       go_wp2;try simp only [Exit.inBlock,Exit.then]
       refine bodyPost_ret (zBG rfl _ _ _) rfl ?_;exact ⟨HF.out _ (Or.inl ⟨by rw [<-HB.out];exact hbd,congrArg (λz=>Ending.returned (.tuple #[.string ⟨acc.toArray⟩,.int .i64 z,.int .i64 0,.int .i64 0])) HZ.out⟩),hb⟩
      ·have hbd2:(0:Int)<=bd:=by omega
       go_wp2;try simp only [Exit.inBlock,Exit.then]
       refine bodyPost_ret (zBG rfl _ _ _) rfl ?_;exact ⟨HF.out _ (Or.inr ⟨by rw [<-HB.out];exact hbd,by rw [<-HB.out];rfl⟩),hb⟩
   ·have hc34:(((c.toNat:Nat):Int) == 34)=false:=by
     refine beq_eq_false_iff_ne.2 (λe=>hc ?_);have:c.toNat=34:=by omega
     exact UInt8.toNat_inj.1 this
    have HI2:Hid (I+1=q+1+(x++[c]).length):=by show _=_;rw [HI.out,List.length_append];rfl
    have HA2:Hid (a=(x++[c])++r):=by show _=_;rw [HA.out];simp
    have HU2:Hid (∀ z,Wlx.undbl ((x++[c])++z)=(acc++[c])++Wlx.undbl z):=by
     intro z;rw [List.append_assoc,HU.out];show acc++Wlx.undbl (c::z)=_
     rw [Wlx.undbl_other hc];simp
    have HQ2:Hid (Wlx.quo true 1 a=Wlx.quo true (1+(x++[c]).length) r):=by
     show _=_
     rw [HQ.out,Wlx.quo_in hc,List.length_append];rfl
    by_cases hbd:bd<0
    ·by_cases hlo:((c.toNat:Nat):Int)<32
     ·have HB2:Hid ((I:Int)=Wlx.badV q (x++[c])):=by
       show _=_
       rw [Wlx.badV_bad (by unfold Wlx.prt;simp;omega) (by rw [<-HB.out];exact hbd),HI.out]
      clear HI HA HU HQ HB hc;go_wp2_with (at_builtin;refine wpList_append_own _ rfl _ _ 82 rfl w.heap.size 5 i0 (.int .u8 0) 1 1 underlying82 hi hz0 hz1 hz2 rfl (by decide) _ _ _ rfl (own.alloc _) ⟨wr.heap.size,0,none⟩ 1 1 [.int .u8 ((c.toNat:Nat):Int)] rfl rfl (zA2 _ _ _) (by intro u hu;simp at hu;subst hu;rfl) (by unfold maxLen;omega) (by omega) (by simp;omega) ?_)
      intro v3 w3 hown3 hgrow3 _;have hb3:=zA7 hb sw own hgrow3;have HO3:Hid (zEJ w3 w.heap.size v3 (acc++[c])):=zAm (n:=0) hown3;clear hown3 hgrow3 own;go_wp2_with fail
      go_roundg (b.size - (I+1))
      case rel=>exact ⟨x++[c],r,acc++[c],I+1,(I:Int),by simp,rfl,rfl,by omega,HI2,HA2,HU2,HQ2,HB2,HO3,by rw [List.length_append,List.length_append];simp only [List.length_cons,List.length_nil];omega,hb3⟩
      case measure=>omega
     ·by_cases hhi:(126:Int)<((c.toNat:Nat):Int)
      ·have HB2:Hid ((I:Int)=Wlx.badV q (x++[c])):=by
        show _=_
        rw [Wlx.badV_bad (by unfold Wlx.prt;simp;omega) (by rw [<-HB.out];exact hbd),HI.out]
       clear HI HA HU HQ HB hc;go_wp2_with (at_builtin;refine wpList_append_own _ rfl _ _ 82 rfl w.heap.size 5 i0 (.int .u8 0) 1 1 underlying82 hi hz0 hz1 hz2 rfl (by decide) _ _ _ rfl (own.alloc _) ⟨wr.heap.size,0,none⟩ 1 1 [.int .u8 ((c.toNat:Nat):Int)] rfl rfl (zA2 _ _ _) (by intro u hu;simp at hu;subst hu;rfl) (by unfold maxLen;omega) (by omega) (by simp;omega) ?_)
       intro v3 w3 hown3 hgrow3 _;have hb3:=zA7 hb sw own hgrow3;have HO3:Hid (zEJ w3 w.heap.size v3 (acc++[c])):=zAm (n:=0) hown3;clear hown3 hgrow3 own;go_wp2_with fail
       go_roundg (b.size - (I+1))
       case rel=>exact ⟨x++[c],r,acc++[c],I+1,(I:Int),by simp,rfl,rfl,by omega,HI2,HA2,HU2,HQ2,HB2,HO3,by rw [List.length_append,List.length_append];simp only [List.length_cons,List.length_nil];omega,hb3⟩
       case measure=>omega
      ·have HB2:Hid (bd=Wlx.badV q (x++[c])):=by
        show _=_
        rw [Wlx.badV_good (by unfold Wlx.prt;simp;omega),HB.out]
       clear HI HA HU HQ HB hc;go_wp2_with (at_builtin;refine wpList_append_own _ rfl _ _ 82 rfl w.heap.size 5 i0 (.int .u8 0) 1 1 underlying82 hi hz0 hz1 hz2 rfl (by decide) _ _ _ rfl (own.alloc _) ⟨wr.heap.size,0,none⟩ 1 1 [.int .u8 ((c.toNat:Nat):Int)] rfl rfl (zA2 _ _ _) (by intro u hu;simp at hu;subst hu;rfl) (by unfold maxLen;omega) (by omega) (by simp;omega) ?_)
       intro v3 w3 hown3 hgrow3 _;have hb3:=zA7 hb sw own hgrow3;have HO3:Hid (zEJ w3 w.heap.size v3 (acc++[c])):=zAm (n:=0) hown3;clear hown3 hgrow3 own;go_wp2_with fail
       go_roundg (b.size - (I+1))
       case rel=>exact ⟨x++[c],r,acc++[c],I+1,bd,by simp,rfl,rfl,by omega,HI2,HA2,HU2,HQ2,HB2,HO3,by rw [List.length_append,List.length_append];simp only [List.length_cons,List.length_nil];omega,hb3⟩
       case measure=>omega
    ·have HB2:Hid (bd=Wlx.badV q (x++[c])):=by
      show _=_
      rw [Wlx.badV_old (by rw [<-HB.out];exact hbd),HB.out]
     clear HI HA HU HQ HB hc;go_wp2_with (at_builtin;refine wpList_append_own _ rfl _ _ 82 rfl w.heap.size 5 i0 (.int .u8 0) 1 1 underlying82 hi hz0 hz1 hz2 rfl (by decide) _ _ _ rfl (own.alloc _) ⟨wr.heap.size,0,none⟩ 1 1 [.int .u8 ((c.toNat:Nat):Int)] rfl rfl (zA2 _ _ _) (by intro u hu;simp at hu;subst hu;rfl) (by unfold maxLen;omega) (by omega) (by simp;omega) ?_)
     intro v3 w3 hown3 hgrow3 _;have hb3:=zA7 hb sw own hgrow3;have HO3:Hid (zEJ w3 w.heap.size v3 (acc++[c])):=zAm (n:=0) hown3;clear hown3 hgrow3 own;go_wp2_with fail
     go_roundg (b.size - (I+1))
     case rel=>exact ⟨x++[c],r,acc++[c],I+1,bd,by simp,rfl,rfl,by omega,HI2,HA2,HU2,HQ2,HB2,HO3,by rw [List.length_append,List.length_append];simp only [List.length_cons,List.length_nil];omega,hb3⟩
     case measure=>omega
def zAZ (q:Nat) (l:List UInt8) (e:Ending):Prop :=
 (Wlx.hit l=6/\∃ (k0:Int) (s0:ByteArray),e=.returned (.tuple #[.agg #[.int .i64 k0,.string s0,.int .i64 q],.int .i64 0,.int .i64 ((if l.head? = some 34 then 41 else 40:Nat):Int),.int .i64 q])) \/
 (¬ Wlx.hit l=6/\Wlx.runP Wlx.prt (l.take (Wlx.sz (Wlx.hit l) l))<Wlx.sz (Wlx.hit l) l/\∃ (k0:Int) (s0:ByteArray),e=.returned (.tuple #[.agg #[.int .i64 k0,.string s0,.int .i64 q],.int .i64 0,.int .i64 40,.int .i64 ((q+Wlx.runP Wlx.prt (l.take (Wlx.sz (Wlx.hit l) l)):Nat):Int)])) \/
 (¬ Wlx.hit l=6/\¬ Wlx.runP Wlx.prt (l.take (Wlx.sz (Wlx.hit l) l))<Wlx.sz (Wlx.hit l) l/\e=.returned (.tuple #[.agg #[.int .i64 (Wlx.hit l),.string ⟨(Wlx.said (Wlx.hit l) (l.take (Wlx.sz (Wlx.hit l) l))).toArray⟩,.int .i64 q],.int .i64 ((q+Wlx.sz (Wlx.hit l) l:Nat):Int),.int .i64 0,.int .i64 0]))
theorem zCF {q k n:Nat} {c:UInt8} {e:Ending} (h32:¬ c=32) (hk:Wlx.hit (c::t)=k) (h6:¬ k=6) (h2:¬ k=2) (hn:Wlx.sz k (c::t)=n) {s:ByteArray} (hs:s.data.toList=(c::t).take n)
  (he:e=.returned (.tuple #[.agg #[.int .i64 k,.string s,.int .i64 q],.int .i64 ((q+n:Nat):Int),.int .i64 0,.int .i64 0])):zAZ q (c::t) e:=by
 subst hk hn;have ha:=Wlx.at_of h32 h6;have hl:((c::t).take (Wlx.sz (Wlx.hit (c::t)) (c::t))).length=Wlx.sz (Wlx.hit (c::t)) (c::t):=by
  rw [List.length_take];exact Nat.min_eq_left (Wlx.sz_le _ _)
 refine Or.inr (Or.inr ⟨h6,λhb=>h2 (Wlx.bad_text ha (by rw [hl];exact hb)),?_⟩);rw [he];have es:s=⟨(Wlx.said (Wlx.hit (c::t)) ((c::t).take (Wlx.sz (Wlx.hit (c::t)) (c::t)))).toArray⟩:=by
  unfold Wlx.said;rw [if_neg h2,<-hs]
 rw [es]
theorem zOc (b:ByteArray) (q:Nat) (c:UInt8) (t:List UInt8) (w:World) (hs:b.size<=1024) (hq:q<b.size) (hd:b.data.toList.drop q=c::t) (hc:Wlx.dig c=true):Calls prog 60 #[.string b,.int .i64 q] w λe w'=>zAZ q (c::t) e/\Below w.heap.size w w':=by
 obtain ⟨_,hbq⟩:=zBY (x:=[]) (y:=t) (c:=c) hd;have hbq:b[q]=c:=hbq;have eb:(((b[q]).toNat:Nat):Int)=((c.toNat:Nat):Int):=by rw [hbq]
 have D0:=λw=>zAo c w
 rw [hc] at D0;obtain ⟨d,hdd⟩:∃ d,Wlx.runP Wlx.dig (c::t)=d:=⟨_,rfl⟩
 have hdl:d<=t.length+1:=by rw [<-hdd];exact Wlx.runP_le _ _
 have hd1:1<=d:=by rw [<-hdd,Wlx.runP_pos hc];omega
 have hsz:=zDn (by omega:q<=b.size) hd;simp only [List.length_cons] at hsz;have D1:=λw=>zCR b q w (by omega) hs
 rw [hd,hdd] at D1;have hqi:(q:Int)<(b.size:Int):=by omega
 have hcls:=Wlx.cls c;have h32:¬ c=32:=(hcls.1 (hcls.2.1 hc)).2.2.2.1;have hhit:Wlx.hit (c::t)=1:=Wlx.hit_of (Or.inl ⟨rfl,hc⟩) (Wlx.numSz_pos.2 hc);have hN:Wlx.sz 1 (c::t)=Wlx.numTl d ((c::t).drop d):=by
  show Wlx.numSz (c::t)=_
  unfold Wlx.numSz;rw [hdd,if_neg (by omega)]
 have hdrop:b.data.toList.drop (q+d)=(c::t).drop d:=by rw [<-List.drop_drop,hd]
 have FIN:Hid (∀ n e,Wlx.sz 1 (c::t)=n->n<=t.length+1->e=.returned (.tuple #[.agg #[.int .i64 1,.string (b.extract q (q+n)),.int .i64 q],.int .i64 ((q+n:Nat):Int),.int .i64 0,.int .i64 0])->zAZ q (c::t) e):=by
  intro n e h1 h2 h3;refine zCF h32 hhit (by omega) (by omega) h1 (s:=b.extract q (q+n)) ?_ h3;rw [Lib.extract_data,hd,Nat.add_sub_cancel_left]
 have HN:Hid (Wlx.sz 1 (c::t)=Wlx.numTl d ((c::t).drop d)):=hN;have HDr:Hid (b.data.toList.drop (q+d)=(c::t).drop d):=hdrop;clear hdd hbq hcls h32 hhit hN hdrop hd hc;by_cases h1:q+d+1<b.size
 ·have h1i:(q:Int)+(d:Int)+1<(b.size:Int):=by omega
  have hl:=congrArg List.length HDr.out;have e2:b.data.toList.length=b.size:=rfl;rw [List.length_drop,e2] at hl;obtain ⟨x0,x1,z,hy⟩:∃ x0 x1 z,(c::t).drop d=x0::x1::z:=by
   match hm:(c::t).drop d,hl with
   | [],hl=>simp only [List.length_nil] at hl;omega
   | [x0],hl=>simp only [List.length_cons,List.length_nil] at hl;omega
   | x0::x1::z,_=>exact ⟨x0,x1,z,rfl⟩
  have hD:=HDr.out;rw [hy] at hD hl;simp only [List.length_cons] at hl;obtain ⟨_,hb0⟩:=zBY (x:=[]) (y:=x1::z) (c:=x0) hD;obtain ⟨_,hb1⟩:=zBY (x:=[x0]) (y:=z) (c:=x1) hD;have hb0:b[q+d]=x0:=hb0;have hb1:b[q+d+1]=x1:=hb1;have eb0:(((b[q+d]).toNat:Nat):Int)=((x0.toNat:Nat):Int):=by rw [hb0]
  have eb1:(((b[q+d+1]).toNat:Nat):Int)=((x1.toNat:Nat):Int):=by rw [hb1]
  have hN:=HN.out;rw [hy,Wlx.numTl_cons] at hN;have D2:=λw=>zAo x1 w
  have hqd:(q:Int)+(d:Int)<(b.size:Int):=by omega
  clear hb0 hb1 e2 hy HN HDr;by_cases h46:x0=46
  ·subst h46;have e46:((((46:UInt8).toNat:Nat):Int))=46:=rfl;rw [e46] at eb0;cases hdg:Wlx.dig x1 with
   | true =>
    rw [hdg] at D2;obtain ⟨m,hm⟩:∃ m,Wlx.runP Wlx.dig (x1::z)=m:=⟨_,rfl⟩
    have hm1:1<=m:=by rw [<-hm,Wlx.runP_pos hdg];omega
    have hml:m<=z.length+1:=by rw [<-hm];exact Wlx.runP_le _ _
    have hn:Wlx.sz 1 (c::t)=d+1+m:=by rw [hN,hm,if_pos ⟨rfl,by omega⟩]
    have D3:=λw=>zCR b (q+d+1) w (by omega) hs
    have hD1:b.data.toList.drop (q+d+1)=x1::z:=by rw [<-List.drop_drop,hD];rfl
    rw [hD1,hm] at D3;have HF:Hid (∀ e,e=.returned (.tuple #[.agg #[.int .i64 1,.string (b.extract q (q+(d+1+m))),.int .i64 q],.int .i64 ((q+(d+1+m):Nat):Int),.int .i64 0,.int .i64 0])->zAZ q (c::t) e):=λe he=>FIN.out _ e hn (by omega) he
    obtain ⟨n,hnn⟩:∃ n,d+1+m=n:=⟨_,rfl⟩
    have hqn:q+d+1+m=q+n:=by omega
    rw [hqn] at D3;rw [hnn] at HF;have k1:(q:Int)<=(q:Int)+(n:Int):=by omega
    have k2:(q:Int)+(n:Int)<=(b.size:Int):=by omega
    have hc1:((q+d+1:Nat):Int)=(q:Int)+(d:Int)+1:=by omega
    rw [hc1] at D3;clear FIN hN hn hD hD1 hdg hm hnn hqn hc1 hl;go_enter func60,ntmps60;go_wp2_with fail
    refine (D0 _).mono ?_;rintro e w1 ⟨rfl,rfl⟩;go_wp2_with fail
    refine (D1 _).mono ?_;rintro e w1 ⟨rfl,rfl⟩;go_wp2_with fail
    refine (D2 _).mono ?_;rintro e w1 ⟨rfl,rfl⟩;go_wp2_with fail
    refine (D3 _).mono ?_;rintro e w1 ⟨rfl,rfl⟩;go_wp2;refine bodyPost_ret (v:=.tuple #[.agg #[.int .i64 1,.string (b.extract q (q+n)),.int .i64 q],.int .i64 ((q:Int)+(n:Int)),.int .i64 0,.int .i64 0]) (by simp [results,results60,go_sem]) rfl ⟨HF.out _ (by simp),?_⟩;exact ((Below.refl _ w).alloc (Nat.le_refl _) _).alloc (by simp) _
   | false =>
    rw [hdg] at D2;have hn:Wlx.sz 1 (c::t)=d:=by rw [hN,Wlx.runP_neg hdg,if_neg (by omega)]
    have HF:Hid (∀ e,e=.returned (.tuple #[.agg #[.int .i64 1,.string (b.extract q (q+d)),.int .i64 q],.int .i64 ((q+d:Nat):Int),.int .i64 0,.int .i64 0])->zAZ q (c::t) e):=λe he=>FIN.out d e hn hdl he
    have k1:(q:Int)<=(q:Int)+(d:Int):=by omega
    have k2:(q:Int)+(d:Int)<=(b.size:Int):=by omega
    clear FIN hN hn hD hdg hl;go_enter func60,ntmps60;go_wp2_with fail
    refine (D0 _).mono ?_;rintro e w1 ⟨rfl,rfl⟩;go_wp2_with fail
    refine (D1 _).mono ?_;rintro e w1 ⟨rfl,rfl⟩;go_wp2_with fail
    refine (D2 _).mono ?_;rintro e w1 ⟨rfl,rfl⟩;go_wp2;refine bodyPost_ret (v:=.tuple #[.agg #[.int .i64 1,.string (b.extract q (q+d)),.int .i64 q],.int .i64 ((q:Int)+(d:Int)),.int .i64 0,.int .i64 0]) (by simp [results,results60,go_sem]) rfl ⟨HF.out _ (by simp),?_⟩;exact ((Below.refl _ w).alloc (Nat.le_refl _) _).alloc (by simp) _
  ·have e46:(((x0.toNat:Nat):Int) == 46)=false:=by
    refine beq_eq_false_iff_ne.2 (λe=>h46 ?_);have:x0.toNat=46:=by omega
    exact UInt8.toNat_inj.1 this
   have hn:Wlx.sz 1 (c::t)=d:=by rw [hN,if_neg (λh=>h46 h.1)]
   have HF:Hid (∀ e,e=.returned (.tuple #[.agg #[.int .i64 1,.string (b.extract q (q+d)),.int .i64 q],.int .i64 ((q+d:Nat):Int),.int .i64 0,.int .i64 0])->zAZ q (c::t) e):=λe he=>FIN.out d e hn hdl he
   have k1:(q:Int)<=(q:Int)+(d:Int):=by omega
   have k2:(q:Int)+(d:Int)<=(b.size:Int):=by omega
   clear FIN hN hn hD h46 D2 hl;go_enter func60,ntmps60;go_wp2_with fail
   refine (D0 _).mono ?_;rintro e w1 ⟨rfl,rfl⟩;go_wp2_with fail
   refine (D1 _).mono ?_;rintro e w1 ⟨rfl,rfl⟩;go_wp2;refine bodyPost_ret (v:=.tuple #[.agg #[.int .i64 1,.string (b.extract q (q+d)),.int .i64 q],.int .i64 ((q:Int)+(d:Int)),.int .i64 0,.int .i64 0]) (by simp [results,results60,go_sem]) rfl ⟨HF.out _ (by simp),?_⟩;exact ((Below.refl _ w).alloc (Nat.le_refl _) _).alloc (by simp) _
 ·have h1i:¬ (q:Int)+(d:Int)+1<(b.size:Int):=by omega
  have hn:Wlx.sz 1 (c::t)=d:=by
   rw [HN.out];have hl:=congrArg List.length HDr.out;have e2:b.data.toList.length=b.size:=rfl;rw [List.length_drop,e2] at hl;cases hy:(c::t).drop d with
   | nil=>rfl
   | cons x y =>
    rw [hy] at hl;simp only [List.length_cons] at hl;have:y=[]:=List.eq_nil_of_length_eq_zero (by omega);subst this;rw [Wlx.numTl_cons,if_neg (by simp [Wlx.runP])]
  have HF:Hid (∀ e,e=.returned (.tuple #[.agg #[.int .i64 1,.string (b.extract q (q+d)),.int .i64 q],.int .i64 ((q+d:Nat):Int),.int .i64 0,.int .i64 0])->zAZ q (c::t) e):=λe he=>FIN.out d e hn hdl he
  have k1:(q:Int)<=(q:Int)+(d:Int):=by omega
  have k2:(q:Int)+(d:Int)<=(b.size:Int):=by omega
  clear FIN HN HDr hn;go_enter func60,ntmps60;go_wp2_with fail
  refine (D0 _).mono ?_;rintro e w1 ⟨rfl,rfl⟩;go_wp2_with fail
  refine (D1 _).mono ?_;rintro e w1 ⟨rfl,rfl⟩;go_wp2;refine bodyPost_ret (v:=.tuple #[.agg #[.int .i64 1,.string (b.extract q (q+d)),.int .i64 q],.int .i64 ((q:Int)+(d:Int)),.int .i64 0,.int .i64 0]) (by simp [results,results60,go_sem]) rfl ⟨HF.out _ (by simp),?_⟩;exact ((Below.refl _ w).alloc (Nat.le_refl _) _).alloc (by simp) _
theorem zIh (h:Wlx.txtSz (34::t)=0):Wlx.hit (34::t)=6:=by
 refine Wlx.hit_none λj a b=>?_
 have:j=1 \/ j=2 \/ j=3 \/ j=4 \/ j=5:=by omega
 rcases this with rfl | rfl | rfl | rfl | rfl
 ·have:¬ 0<Wlx.numSz (34::t):=λh=>absurd (Wlx.numSz_pos.1 h) (by decide)
  rw [Wlx.sz1];omega
 ·exact h
 ·have:¬ 0<Wlx.runP Wlx.wrd (34::t):=λh=>absurd (Wlx.wrdSz_pos.1 h) (by decide)
  rw [Wlx.sz3];omega
 ·have:¬ 0<Wlx.nameSz (34::t) Wlx.faults:=λh=>absurd (Wlx.faultSz_pos h) (by decide)
  rw [Wlx.sz4];omega
 ·have:¬ 0<Wlx.nameSz (34::t) Wlx.marks:=λh=>absurd (Wlx.markSz_pos h) (by decide)
  rw [Wlx.sz5];omega
theorem zMY (b:ByteArray) (q:Nat) (t:List UInt8) (w:World) (hs:b.size<=1024) (hq:q<b.size) (hd:b.data.toList.drop q=34::t):Calls prog 60 #[.string b,.int .i64 q] w λe w'=>zAZ q (34::t) e/\Below w.heap.size w w':=by
 obtain ⟨_,hbq⟩:=zBY (x:=[]) (y:=t) (c:=34) hd;have hbq:b[q]=34:=hbq;have eb:(((b[q]).toNat:Nat):Int)=34:=by rw [hbq];rfl
 have D0:=λw=>zAo 34 w
 have e34:((((34:UInt8).toNat:Nat):Int))=34:=rfl;have ed:Wlx.dig 34=false:=rfl;rw [e34,ed] at D0;have hqi:(q:Int)<(b.size:Int):=by omega
 have T:=λw=>zHn b q t w hs hq (by rw [<-List.drop_drop,hd];rfl)
 have hn1:¬ (w.heap.size=w.heap.size+1):=by omega
 clear hbq hd e34 ed;go_enter func60,ntmps60;go_wp2_with fail
 refine (D0 _).mono ?_;rintro e w1 ⟨rfl,rfl⟩;go_wp2_with fail
 refine (T _).mono ?_;rintro e w1 ⟨hT,hb1⟩;have p4:AtL w1 w.heap.size [.int .i64 0,.string ⟨#[]⟩,.int .i64 0]:=AtL.below hb1 ((AtL.new0 w 107 [.int .i64 0,.string ⟨#[]⟩,.int .i64 0]).alloc _);have p9:AtL w1 (w.heap.size+1) [.int .i64 0,.string ⟨#[]⟩,.int .i64 q]:=AtL.below hb1 (AtL.new1 w _ 107 [.int .i64 0,.string ⟨#[]⟩,.int .i64 q]);have hB:Below w.heap.size w w1:=(((Below.refl _ w).alloc (Nat.le_refl _) _).alloc (by simp) _).trans (hb1.mono (by simp;omega));obtain ⟨a0,a1,a2,a3,a4,a5⟩:=p4.three;obtain ⟨c0,c1,c2,c3,c4,c5⟩:=p9.three;clear hb1 p4 p9 T D0;have ksz:=hB.size;generalize hk4:w.heap.size=k4 at *;rcases hT with ⟨hz,rfl⟩ | ⟨hz,hbad,rfl⟩ | ⟨hz,hbad,rfl⟩
 ·have HP:Hid (zAZ q (34::t) (.returned (.tuple #[.agg #[.int .i64 0,.string ⟨#[]⟩,.int .i64 q],.int .i64 0,.int .i64 41,.int .i64 q]))):=Or.inl ⟨zIh hz,0,⟨#[]⟩,rfl⟩;clear hz;go_wp2;refine bodyPost_ret (v:=.tuple #[.agg #[.int .i64 0,.string ⟨#[]⟩,.int .i64 q],.int .i64 0,.int .i64 41,.int .i64 q]) (by simp [results,results60,go_sem, *]) rfl ⟨HP.out,?_⟩;rw [hk4];exact zAe (k:=k4) hB (Nat.le_refl _) _ _ _
 ·have hh:Wlx.hit (34::t)=2:=Wlx.hit_of (Or.inr (Or.inl ⟨rfl,rfl⟩)) hz;obtain ⟨pl,hpl⟩:∃ pl,q+Wlx.runP Wlx.prt ((34::t).take (Wlx.txtSz (34::t)))=pl:=⟨_,rfl⟩
  have HP:Hid (zAZ q (34::t) (.returned (.tuple #[.agg #[.int .i64 0,.string ⟨#[]⟩,.int .i64 q],.int .i64 0,.int .i64 40,.int .i64 pl]))):=by
   refine Or.inr (Or.inl ⟨by omega,?_,0,⟨#[]⟩,?_⟩)
   ·rw [hh];exact hbad
   ·rw [hh,<-hpl];rfl
  rw [hpl];clear hz hbad hh hpl;go_wp2;refine bodyPost_ret (v:=.tuple #[.agg #[.int .i64 0,.string ⟨#[]⟩,.int .i64 q],.int .i64 0,.int .i64 40,.int .i64 pl]) (by simp [results,results60,go_sem, *]) rfl ⟨HP.out,?_⟩;rw [hk4];exact zAe (k:=k4) hB (Nat.le_refl _) _ _ _
 ·have hh:Wlx.hit (34::t)=2:=Wlx.hit_of (Or.inr (Or.inl ⟨rfl,rfl⟩)) hz;obtain ⟨pl,hpl⟩:∃ pl,q+Wlx.txtSz (34::t)=pl:=⟨_,rfl⟩
  obtain ⟨S,hS⟩:∃ S:ByteArray,⟨(Wlx.said 2 ((34::t).take (Wlx.txtSz (34::t)))).toArray⟩=S:=⟨_,rfl⟩
  have HP:Hid (zAZ q (34::t) (.returned (.tuple #[.agg #[.int .i64 2,.string S,.int .i64 q],.int .i64 pl,.int .i64 0,.int .i64 0]))):=by
   refine Or.inr (Or.inr ⟨by omega,?_,?_⟩)
   ·rw [hh];exact hbad
   ·rw [hh,<-hpl,<-hS];rfl
  rw [hpl,hS];clear hz hbad hh hpl hS;go_wp2;refine bodyPost_ret (v:=.tuple #[.agg #[.int .i64 2,.string S,.int .i64 q],.int .i64 pl,.int .i64 0,.int .i64 0]) (by simp [results,results60,go_sem, *]) rfl ⟨HP.out,?_⟩;rw [hk4];exact zAe (k:=k4) ((hB.setCell (p:=⟨k4+1,0,none⟩) (by show k4<=k4+1;omega) _).setCell (p:=⟨k4+1,1,none⟩) (by show k4<=k4+1;omega) _) (Nat.le_refl _) _ _ _
end Go.Proofs.YtdghjlmnlodnlaaGreatDoor
namespace Wlx
theorem wrd_iff (c:UInt8):wrd c=((cap c || low c) || decide ((c.toNat:Int)=36) || dig c):=rfl
end Wlx
namespace Go.Proofs.YtdghjlmnlodnlaaGreatDoor
open Tryz
open Go.Shelf Go.RowKit
set_option linter.unusedVariables false
theorem zMB (b:ByteArray) (q:Nat) (c:UInt8) (t:List UInt8) (w:World) (hs:b.size<=1024) (hq:q<b.size) (hd:b.data.toList.drop q=c::t) (hc:Wlx.wrd c=true) (hdg:Wlx.dig c=false):Calls prog 60 #[.string b,.int .i64 q] w λe w'=>zAZ q (c::t) e/\Below w.heap.size w w':=by
 obtain ⟨_,hbq⟩:=zBY (x:=[]) (y:=t) (c:=c) hd;have hbq:b[q]=c:=hbq;have eb:(((b[q]).toNat:Nat):Int)=((c.toNat:Nat):Int):=by rw [hbq]
 have D0:=λw=>zAo c w
 rw [hdg] at D0;have L0:=λw=>zBX c w
 have hqi:(q:Int)<(b.size:Int):=by omega
 have hcls:=(Wlx.cls c).1 hc;have h34:(((c.toNat:Nat):Int) == 34)=false:=by
  refine beq_eq_false_iff_ne.2 (λe=>hcls.1 ?_);have:c.toNat=34:=by omega
  exact UInt8.toNat_inj.1 this
 have hhit:Wlx.hit (c::t)=3:=Wlx.hit_of (Or.inr (Or.inr (Or.inl ⟨rfl,hc,hdg⟩))) (Wlx.wrdSz_pos.2 hc);obtain ⟨R,hR⟩:∃ R,q+Wlx.sz 3 (c::t)=R:=⟨_,rfl⟩
 have E0:Hid (R=q+1+Wlx.runP Wlx.wrd (b.data.toList.drop (q+1))):=by
  show _=_
  rw [<-hR,Wlx.sz3,Wlx.runP_pos hc,<-List.drop_drop,hd];show q+(Wlx.runP Wlx.wrd t+1)=q+1+Wlx.runP Wlx.wrd t
  omega
 have HF:Hid (∀ (j:Nat) e,R=j->e=.returned (.tuple #[.agg #[.int .i64 3,.string (b.extract q j),.int .i64 q],.int .i64 j,.int .i64 0,.int .i64 0])->zAZ q (c::t) e):=by
  intro j e h1 h2;subst h1;refine zCF hcls.2.2.2.1 hhit (by omega) (by omega) rfl (s:=b.extract q R) ?_ (by rw [h2,hR];rfl);rw [Lib.extract_data,hd,<-hR,Nat.add_sub_cancel_left]
 cases hl0:(Wlx.cap c || Wlx.low c) with
 | true =>
  rw [hl0] at L0;clear hbq hcls hhit hR hl0 hd hc hdg;go_enter func60,ntmps60;go_wp2_with fail
  refine (D0 _).mono ?_;rintro e w1 ⟨rfl,rfl⟩;go_wp2_with fail
  refine (L0 _).mono ?_;rintro e w1 ⟨rfl,rfl⟩;go_wp2_with fail
  go_loopg [10] (b.size - (q+1)) (λgk x wr=>∃ j:Nat,x=.int .i64 j/\gk=b.size - j/\q+1<=j/\j<=b.size/\Hid (R=j+Wlx.runP Wlx.wrd (b.data.toList.drop j))/\wr=((w.alloc (.cells #[.int .i64 0,.string ⟨#[]⟩,.int .i64 0] 107)).alloc (.cells #[.int .i64 3,.string ⟨#[]⟩,.int .i64 q] 107)))
  case atStart=>exact ⟨q+1,by simp,rfl,Nat.le_refl _,hq,E0,rfl⟩
  case round =>
   clear E0;obtain ⟨j,rfl,hg,hj0,hj,HR,rfl⟩:=hrel;have k1:(q:Int)<=(j:Int):=by omega
   have k2:(j:Int)<=(b.size:Int):=by omega
   by_cases hlt:j<b.size
   ·have hli:(j:Int)<(b.size:Int):=by omega
    have LT:=λw=>zBX (b[j]) w
    have DG:=λw=>zAo (b[j]) w
    have hdj:=zA9 b j hlt;obtain ⟨x,hx⟩:∃ x,b[j]=x:=⟨_,rfl⟩
    rw [hx] at LT DG hdj;have ebj:(((b[j]).toNat:Nat):Int)=((x.toNat:Nat):Int):=by rw [hx]
    clear hx;cases hw:Wlx.wrd x with
    | true =>
     have E:Hid (R=(j+1)+Wlx.runP Wlx.wrd (b.data.toList.drop (j+1))):=by
      show _=_;rw [HR.out,hdj,Wlx.runP_pos hw];omega
     cases hlx:(Wlx.cap x || Wlx.low x) with
     | true =>
      rw [hlx] at LT;clear HR hdj hw hlx DG;go_wp2_with fail
      refine (LT _).mono ?_;rintro e w1 ⟨rfl,rfl⟩;go_wp2_with fail
      go_roundg (b.size - (j+1))
      case rel=>exact ⟨j+1,by simp,rfl,by omega,hlt,E,by first | trivial | rfl⟩
      case measure=>omega
     | false =>
      rw [hlx] at LT;cases hdx:Wlx.dig x with
      | true =>
       rw [hdx] at DG;clear HR hdj hw hlx hdx;go_wp2_with fail
       refine (LT _).mono ?_;rintro e w1 ⟨rfl,rfl⟩;go_wp2_with fail
       refine (DG _).mono ?_;rintro e w1 ⟨rfl,rfl⟩;go_wp2_with fail
       go_roundg (b.size - (j+1))
       case rel=>exact ⟨j+1,by simp,rfl,by omega,hlt,E,by first | trivial | rfl⟩
       case measure=>omega
      | false =>
       rw [hdx] at DG;have h36x:(((x.toNat:Nat):Int) == 36)=true:=by
        rw [Wlx.wrd_iff,hlx,hdx] at hw;simp at hw;rw [beq_iff_eq];omega
       clear HR hdj hw hlx hdx;go_wp2_with fail
       refine (LT _).mono ?_;rintro e w1 ⟨rfl,rfl⟩;go_wp2_with fail
       refine (DG _).mono ?_;rintro e w1 ⟨rfl,rfl⟩;go_wp2_with fail
       go_roundg (b.size - (j+1))
       case rel=>exact ⟨j+1,by simp,rfl,by omega,hlt,E,by first | trivial | rfl⟩
       case measure=>omega
    | false =>
     have E:Hid (R=j):=by show _=_;rw [HR.out,hdj,Wlx.runP_neg hw];rfl
     have hw2:=hw;rw [Wlx.wrd_iff] at hw2;simp only [Bool.or_eq_false_iff] at hw2;have hlx:(Wlx.cap x || Wlx.low x)=false:=by rw [hw2.1.1.1,hw2.1.1.2];rfl
     have h36x:(((x.toNat:Nat):Int) == 36)=false:=by
      have:=of_decide_eq_false hw2.1.2;exact beq_eq_false_iff_ne.2 this
     rw [hlx] at LT;rw [hw2.2] at DG;clear HR hdj hw hlx hw2;go_wp2_with fail
     refine (LT _).mono ?_;rintro e w1 ⟨rfl,rfl⟩;go_wp2_with fail
     refine (DG _).mono ?_;rintro e w1 ⟨rfl,rfl⟩;go_wp2;refine bodyPost_ret (v:=.tuple #[.agg #[.int .i64 3,.string (b.extract q j),.int .i64 q],.int .i64 j,.int .i64 0,.int .i64 0]) (by simp [results,results60,go_sem]) rfl ⟨HF.out _ _ E.out rfl,?_⟩;exact ((Below.refl _ w).alloc (Nat.le_refl _) _).alloc (by simp) _
   ·have hli:¬ (j:Int)<(b.size:Int):=by omega
    have E:Hid (R=j):=by show _=_;rw [HR.out,zAl b j hlt];rfl
    clear HR;go_wp2;refine bodyPost_ret (v:=.tuple #[.agg #[.int .i64 3,.string (b.extract q j),.int .i64 q],.int .i64 j,.int .i64 0,.int .i64 0]) (by simp [results,results60,go_sem]) rfl ⟨HF.out _ _ E.out rfl,?_⟩;exact ((Below.refl _ w).alloc (Nat.le_refl _) _).alloc (by simp) _
 | false =>
  rw [hl0] at L0;have h36:(((c.toNat:Nat):Int) == 36)=true:=by
   rw [Wlx.wrd_iff,hl0,hdg] at hc;simp at hc;rw [beq_iff_eq];omega
  clear hbq hcls hhit hR hl0 hd hc hdg;go_enter func60,ntmps60;go_wp2_with fail
  refine (D0 _).mono ?_;rintro e w1 ⟨rfl,rfl⟩;go_wp2_with fail
  refine (L0 _).mono ?_;rintro e w1 ⟨rfl,rfl⟩;go_wp2_with fail
  go_loopg [10] (b.size - (q+1)) (λgk x wr=>∃ j:Nat,x=.int .i64 j/\gk=b.size - j/\q+1<=j/\j<=b.size/\Hid (R=j+Wlx.runP Wlx.wrd (b.data.toList.drop j))/\wr=((w.alloc (.cells #[.int .i64 0,.string ⟨#[]⟩,.int .i64 0] 107)).alloc (.cells #[.int .i64 3,.string ⟨#[]⟩,.int .i64 q] 107)))
  case atStart=>exact ⟨q+1,by simp,rfl,Nat.le_refl _,hq,E0,rfl⟩
  case round =>
   clear E0;obtain ⟨j,rfl,hg,hj0,hj,HR,rfl⟩:=hrel;have k1:(q:Int)<=(j:Int):=by omega
   have k2:(j:Int)<=(b.size:Int):=by omega
   by_cases hlt:j<b.size
   ·have hli:(j:Int)<(b.size:Int):=by omega
    have LT:=λw=>zBX (b[j]) w
    have DG:=λw=>zAo (b[j]) w
    have hdj:=zA9 b j hlt;obtain ⟨x,hx⟩:∃ x,b[j]=x:=⟨_,rfl⟩
    rw [hx] at LT DG hdj;have ebj:(((b[j]).toNat:Nat):Int)=((x.toNat:Nat):Int):=by rw [hx]
    clear hx;cases hw:Wlx.wrd x with
    | true =>
     have E:Hid (R=(j+1)+Wlx.runP Wlx.wrd (b.data.toList.drop (j+1))):=by
      show _=_;rw [HR.out,hdj,Wlx.runP_pos hw];omega
     cases hlx:(Wlx.cap x || Wlx.low x) with
     | true =>
      rw [hlx] at LT;clear HR hdj hw hlx DG;go_wp2_with fail
      refine (LT _).mono ?_;rintro e w1 ⟨rfl,rfl⟩;go_wp2_with fail
      go_roundg (b.size - (j+1))
      case rel=>exact ⟨j+1,by simp,rfl,by omega,hlt,E,by first | trivial | rfl⟩
      case measure=>omega
     | false =>
      rw [hlx] at LT;cases hdx:Wlx.dig x with
      | true =>
       rw [hdx] at DG;clear HR hdj hw hlx hdx;go_wp2_with fail
       refine (LT _).mono ?_;rintro e w1 ⟨rfl,rfl⟩;go_wp2_with fail
       refine (DG _).mono ?_;rintro e w1 ⟨rfl,rfl⟩;go_wp2_with fail
       go_roundg (b.size - (j+1))
       case rel=>exact ⟨j+1,by simp,rfl,by omega,hlt,E,by first | trivial | rfl⟩
       case measure=>omega
      | false =>
       rw [hdx] at DG;have h36x:(((x.toNat:Nat):Int) == 36)=true:=by
        rw [Wlx.wrd_iff,hlx,hdx] at hw;simp at hw;rw [beq_iff_eq];omega
       clear HR hdj hw hlx hdx;go_wp2_with fail
       refine (LT _).mono ?_;rintro e w1 ⟨rfl,rfl⟩;go_wp2_with fail
       refine (DG _).mono ?_;rintro e w1 ⟨rfl,rfl⟩;go_wp2_with fail
       go_roundg (b.size - (j+1))
       case rel=>exact ⟨j+1,by simp,rfl,by omega,hlt,E,by first | trivial | rfl⟩
       case measure=>omega
    | false =>
     have E:Hid (R=j):=by show _=_;rw [HR.out,hdj,Wlx.runP_neg hw];rfl
     have hw2:=hw;rw [Wlx.wrd_iff] at hw2;simp only [Bool.or_eq_false_iff] at hw2;have hlx:(Wlx.cap x || Wlx.low x)=false:=by rw [hw2.1.1.1,hw2.1.1.2];rfl
     have h36x:(((x.toNat:Nat):Int) == 36)=false:=by
      have:=of_decide_eq_false hw2.1.2;exact beq_eq_false_iff_ne.2 this
     rw [hlx] at LT;rw [hw2.2] at DG;clear HR hdj hw hlx hw2;go_wp2_with fail
     refine (LT _).mono ?_;rintro e w1 ⟨rfl,rfl⟩;go_wp2_with fail
     refine (DG _).mono ?_;rintro e w1 ⟨rfl,rfl⟩;go_wp2;refine bodyPost_ret (v:=.tuple #[.agg #[.int .i64 3,.string (b.extract q j),.int .i64 q],.int .i64 j,.int .i64 0,.int .i64 0]) (by simp [results,results60,go_sem]) rfl ⟨HF.out _ _ E.out rfl,?_⟩;exact ((Below.refl _ w).alloc (Nat.le_refl _) _).alloc (by simp) _
   ·have hli:¬ (j:Int)<(b.size:Int):=by omega
    have E:Hid (R=j):=by show _=_;rw [HR.out,zAl b j hlt];rfl
    clear HR;go_wp2;refine bodyPost_ret (v:=.tuple #[.agg #[.int .i64 3,.string (b.extract q j),.int .i64 q],.int .i64 j,.int .i64 0,.int .i64 0]) (by simp [results,results60,go_sem]) rfl ⟨HF.out _ _ E.out rfl,?_⟩;exact ((Below.refl _ w).alloc (Nat.le_refl _) _).alloc (by simp) _
end Go.Proofs.YtdghjlmnlodnlaaGreatDoor
