/- PlainW, TAblP, TAble, TKids, TLent, MKit, MOwn, TRefA. -/
import Derived.Test.YtlggnpohhahdlaaGreatDoorQ28
import Derived.OwnWalk
import Derived.Laws.OwnMore
import Derived.Deep.LoopGhost
import Derived.BigQuiet
import Derived.Laws.CopyRow
set_option maxHeartbeats 4000000
set_option maxRecDepth 100000
namespace Go.Proofs.YtlggnpohhahdlaaGreatDoor.Wnum
def allD (l:List UInt8):Prop:=∀ c ∈ l,48≤c.toNat∧c.toNat≤57
def val (l:List UInt8):Nat:=l.foldl (fun n c=>n * 10+(c.toNat - 48)) 0
theorem val_snoc (l:List UInt8) (c:UInt8):val (l++[c])=val l * 10+(c.toNat - 48):=by unfold val;rw [List.foldl_append];rfl
theorem val_from:∀ (l:List UInt8) (n:Nat),l.foldl (fun n c=>n * 10+(c.toNat - 48)) n=n * 10 ^ l.length+val l:=by
 intro l;induction l with
 | nil=>intro n;simp [val]
 | cons c t ih =>
  intro n;have h1:(c::t).foldl (fun n c=>n * 10+(c.toNat - 48)) n=t.foldl (fun n c=>n * 10+(c.toNat - 48)) (n * 10+(c.toNat - 48)):=rfl;have h2:val (c::t)=t.foldl (fun n c=>n * 10+(c.toNat - 48)) (0 * 10+(c.toNat - 48)):=rfl;rw [h1,h2,ih,ih,List.length_cons,Nat.pow_succ,Nat.zero_mul,Nat.zero_add,Nat.add_mul,Nat.mul_assoc,Nat.mul_comm 10,Nat.add_assoc]
theorem val_cons (c:UInt8) (t:List UInt8):val (c::t)=(c.toNat - 48) * 10 ^ t.length+val t:=by
 have h2:val (c::t)=t.foldl (fun n c=>n * 10+(c.toNat - 48)) (0 * 10+(c.toNat - 48)):=rfl;rw [h2,val_from,Nat.zero_mul,Nat.zero_add]
theorem byte_of {q:Nat} (h:q≤9):(UInt8.ofNat (48+q)).toNat=48+q:=by
 rw [UInt8.toNat_ofNat'];exact Nat.mod_eq_of_lt (by omega)
theorem allD_snoc {l:List UInt8} {q:Nat} (h:allD l) (hq:q≤9):allD (l++[UInt8.ofNat (48+q)]):=by
 intro c hc;rw [List.mem_append,List.mem_singleton] at hc;rcases hc with hc | rfl
 ·exact h c hc
 ·rw [byte_of hq];omega
theorem dd_facts (u:Nat):allD (Lib.decDigits u)∧val (Lib.decDigits u)=u∧Lib.decDigits u ≠ []:=by
 induction u using Nat.strongRecOn with
 | ind u ih =>
  unfold Lib.decDigits;by_cases h:u<10
  ·rw [dif_pos h];refine ⟨?_,?_,by simp⟩
   ·have:=allD_snoc (l:=[]) (q:=u) (fun c hc=>by cases hc) (by omega);exact this
   ·have:=val_snoc [] (UInt8.ofNat (48+u));rw [byte_of (by omega)] at this;rw [show [UInt8.ofNat (48+u)]=[]++[UInt8.ofNat (48+u)] from rfl,this];show 0 * 10+(48+u - 48)=u
    omega
  ·rw [dif_neg h];obtain ⟨h1,h2,h3⟩:=ih (u / 10) (by omega);refine ⟨allD_snoc h1 (by omega),?_,by simp⟩;rw [val_snoc,h2,byte_of (by omega)];omega
theorem decs_facts {d:Nat} (hd:0<d):∀ k r,r<d→r * 10 ^ k % d=0→allD (decs d k r)∧val (decs d k r) * d=r * 10 ^ (decs d k r).length:=by
 intro k;induction k with
 | zero =>
  intro r hr h;rw [ends_zero hr h];exact ⟨fun c hc=>(by cases hc),(by rw [decs_zero,Nat.zero_mul];exact Nat.zero_mul _)⟩
 | succ k ih =>
  intro r hr h;by_cases h0:r=0
  ·rw [h0,decs_zero];exact ⟨fun c hc=>(by cases hc),(by rw [Nat.zero_mul];exact Nat.zero_mul _)⟩
  ·rw [decs_more h0];obtain ⟨i1,i2⟩:=ih (r * 10 % d) (Nat.mod_lt _ hd) (ends_step h);have hq:r * 10 / d≤9:=by
    have:r * 10 / d<10:=(Nat.div_lt_iff_lt_mul hd).2 (by omega);omega
   constructor
   ·intro c hc;rw [List.mem_cons] at hc;rcases hc with rfl | hc
    ·rw [byte_of hq];exact ⟨Nat.le_add_right _ _,Nat.add_le_add_left hq 48⟩
    ·exact i1 c hc
   ·rw [val_cons,byte_of hq,List.length_cons,Nat.add_sub_cancel_left,Nat.add_mul,i2,Nat.mul_right_comm,←Nat.add_mul,Nat.mul_comm (r * 10 / d) d,Nat.div_add_mod,Nat.pow_succ,Nat.mul_assoc,Nat.mul_comm 10]
theorem decs_some {d k r:Nat} (h:r ≠ 0):0<(decs d (k+1) r).length:=by rw [decs_more h,List.length_cons];omega
theorem bt_in (pre l:List UInt8) (m:Nat):bt ⟨(pre++l).toArray⟩ (pre.length+m)=((l.getD m 0).toNat:Int):=by
 unfold bt;show ((((pre++l).getD (pre.length+m) 0).toNat:Nat):Int)=_
 rw [List.getD_eq_getElem?_getD,List.getD_eq_getElem?_getD,List.getElem?_append_right (by omega),Nat.add_sub_cancel_left]
theorem dig_at (pre l suf:List UInt8) (hd:allD l) (he:suf=[] ∨ ¬ isD ((suf.getD 0 0).toNat:Int)) :
  dk ⟨(pre++(l++suf)).toArray⟩ pre.length=l.length∧dv ⟨(pre++(l++suf)).toArray⟩ pre.length=(val l:Int):=by
 have hin:∀ m,(h:m<l.length)→bt ⟨(pre++(l++suf)).toArray⟩ (pre.length+m)=((l[m]).toNat:Int):=fun m h=>by
  rw [bt_in,List.getD_eq_getElem?_getD,List.getElem?_append_left h,List.getElem?_eq_getElem h];rfl
 have hsz:(ByteArray.mk (pre++(l++suf)).toArray).size=pre.length+(l.length+suf.length):=by
  show (pre++(l++suf)).toArray.size=_
  simp
 have hk:dk ⟨(pre++(l++suf)).toArray⟩ pre.length=l.length:=by
  unfold dk;refine cnt_is (by omega) (fun m hm=>?_) (fun hlt=>?_)
  ·rw [hin m hm];have:=hd _ (List.getElem_mem hm);unfold isD;omega
  ·rcases he with he | he
   ·subst he;rw [hsz,List.length_nil] at hlt;omega
   ·rw [bt_in,List.getD_eq_getElem?_getD,List.getElem?_append_right (by omega),Nat.sub_self,←List.getD_eq_getElem?_getD];exact he
 refine ⟨hk,?_⟩;have hs:∀ k,k≤l.length→say ⟨(pre++(l++suf)).toArray⟩ pre.length k=(val (l.take k):Int):=by
  intro k;induction k with
  | zero=>intro _;rfl
  | succ k ih =>
   intro h;have h':k<l.length:=by omega
   rw [say_succ,ih (by omega),hin k h',List.take_succ_eq_append_getElem h',val_snoc];have:=(hd _ (List.getElem_mem h')).1;omega
 unfold dv;rw [hk,hs _ (Nat.le_refl _),List.take_length]
def pf (m:Bool):List UInt8:=if m=true then [45] else []
theorem minus_is (m:Bool) {l suf:List UInt8} (h:allD l) (h0:l ≠ []):minusB ⟨(pf m++(l++suf)).toArray⟩=m∧aOf ⟨(pf m++(l++suf)).toArray⟩=(pf m).length:=by
 have h1:minusB ⟨(pf m++(l++suf)).toArray⟩=m:=by
  cases m with
  | true=>exact decide_eq_true ⟨by show 0<([45]++(l++suf)).toArray.size;simp,rfl⟩
  | false =>
   refine decide_eq_false (fun x=>?_);cases l with
   | nil=>exact h0 rfl
   | cons c t =>
    have hc:=(h c List.mem_cons_self).1;have h2:=x.2;have h3:bt ⟨(pf false++(c::t++suf)).toArray⟩ 0=(c.toNat:Int):=rfl;rw [h3] at h2;omega
 refine ⟨h1,?_⟩;unfold aOf;rw [h1];cases m <;> rfl
theorem two_at (m:Bool) (l1 l2:List UInt8) (c:UInt8) (hc:¬ isD (c.toNat:Int)) (hd1:allD l1) (hd2:allD l2) (h0:l1 ≠ []) (s:ByteArray) (hs:s=⟨(pf m++(l1++c::l2)).toArray⟩) :
  minusB s=m∧dk s (aOf s)=l1.length∧dv s (aOf s)=(val l1:Int)∧bt s (aOf s+dk s (aOf s))=(c.toNat:Int)∧dk s (aOf s+dk s (aOf s)+1)=l2.length∧dv s (aOf s+dk s (aOf s)+1)=(val l2:Int)∧aOf s+dk s (aOf s)+1+l2.length=s.size:=by
 obtain ⟨b1,b2⟩:=minus_is m (suf:=c::l2) hd1 h0;obtain ⟨c1,c2⟩:=dig_at (pf m) l1 (c::l2) hd1 (Or.inr hc);rw [←hs] at b1 b2 c1 c2;rw [b2,c1,c2];have e1:bt s ((pf m).length+l1.length)=(c.toNat:Int):=by
  rw [hs,show pf m++(l1++c::l2)=(pf m++l1)++(c::l2) by simp];have:=bt_in (pf m++l1) (c::l2) 0;rw [List.length_append,Nat.add_zero] at this;exact this
 have e2:s=⟨((pf m++(l1++[c]))++(l2++[])).toArray⟩:=by rw [hs];simp
 obtain ⟨f1,f2⟩:=dig_at (pf m++(l1++[c])) l2 [] hd2 (Or.inl rfl);rw [←e2,show (pf m++(l1++[c])).length=(pf m).length+l1.length+1 by simp;omega] at f1 f2;refine ⟨b1,rfl,rfl,e1,f1,f2,?_⟩;rw [hs];show _=(pf m++(l1++c::l2)).toArray.size
 simp;omega
theorem tenP_nat (k:Nat):tenP k=((10 ^ k:Nat):Int):=by unfold tenP;rw [Int.natCast_pow];rfl
theorem txt_reads {N:Int} {D:Nat} (h1:-1000000000000≤N) (h2:N≤1000000000000) (h3:1≤D) (h4:D≤1000000) (hg:Int.gcd N (D:Int)=1):rdO ⟨(txt N D).toArray⟩=some (Rat.divInt N (D:Int)):=by
 have D0:(D:Int) ≠ 0:=by omega
 rw [←mk_pos D0];obtain ⟨m,hm⟩:∃ m,m=decide (N<0):=⟨_,rfl⟩
 have hs:sgnT N=pf m:=by
  unfold sgnT pf;by_cases h:N<0
  ·rw [if_pos h,hm,decide_eq_true h];rfl
  ·rw [if_neg h,hm,decide_eq_false h];rfl
 have hv:∀ n:Int,n=(N.natAbs:Int)→sgnd m n=N:=by
  intro n hn;unfold sgnd;by_cases h:N<0
  ·rw [hm,decide_eq_true h,if_pos rfl];omega
  ·rw [hm,decide_eq_false h,if_neg (by decide)];omega
 by_cases hd:1000000 % D=0
 ·by_cases hr:N.natAbs % D=0
  ·have d1:D=1:=by
    have:D ∣ Nat.gcd N.natAbs D:=Nat.dvd_gcd (Nat.dvd_of_mod_eq_zero hr) (Nat.dvd_refl _);rw [show Nat.gcd N.natAbs D=1 from hg] at this;exact Nat.dvd_one.1 this
   rw [txt_whole hd hr,hs,d1,Nat.div_one];obtain ⟨a1,a2,a3⟩:=dd_facts N.natAbs;have q:=List.append_nil (Lib.decDigits N.natAbs);rw [←q];obtain ⟨b1,b2⟩:=minus_is m (suf:=[]) a1 a3;obtain ⟨c1,c2⟩:=dig_at (pf m) _ [] a1 (Or.inl rfl);have hB:dB ⟨(pf m++(Lib.decDigits N.natAbs++[])).toArray⟩ (aOf ⟨(pf m++(Lib.decDigits N.natAbs++[])).toArray⟩)=true:=by
    rw [b2];unfold dB;rw [c1,c2,a2];exact decide_eq_true ⟨List.length_pos_iff.2 a3,by omega⟩
   rw [r_whole hB (by rw [b2,c1];show _=(pf m++(Lib.decDigits N.natAbs++[])).toArray.size;simp),b1,b2,c2,a2,hv _ rfl];rfl
  ·rw [txt_point hd hr,hs];have hR:N.natAbs % D<D:=Nat.mod_lt _ (by omega);obtain ⟨a1,a2,a3⟩:=dd_facts (N.natAbs / D);obtain ⟨d1,d2⟩:=decs_facts (d:=D) (by omega) 6 (N.natAbs % D) hR (ends_six hd);have d3:=decs_length D 6 (N.natAbs % D);have d4:0<(decs D 6 (N.natAbs % D)).length:=decs_some hr;generalize decs D 6 (N.natAbs % D)=l2 at *;obtain ⟨s,es⟩:∃ s,s=ByteArray.mk (pf m++(Lib.decDigits (N.natAbs / D)++46::l2)).toArray:=⟨_,rfl⟩
   rw [←es];obtain ⟨t1,t2,t3,t4,t5,t6,t7⟩:=two_at m _ l2 46 (by decide) a1 d1 a3 s es;have hq:=Nat.div_le_self N.natAbs D;have vl:val l2<10 ^ l2.length:=by
    apply Nat.lt_of_mul_lt_mul_right (a:=D)
    rw [d2,Nat.mul_comm];exact Nat.mul_lt_mul_of_pos_left hR (Nat.pow_pos (by omega))
   have vp:10 ^ l2.length≤10 ^ 6:=Nat.pow_le_pow_right (by omega) d3;rw [a2] at t3;have hB:dB s (aOf s)=true:=by
    unfold dB;rw [t2,t3];exact decide_eq_true ⟨List.length_pos_iff.2 a3,by omega⟩
   have hB2:dB s (aOf s+dk s (aOf s)+1)=true:=by
    unfold dB;rw [t5,t6];exact decide_eq_true ⟨d4,by omega⟩
   have r:=(((r_more hB (by omega)).2 hB2 (by rw [t5];exact t7)).2.2.2 t4 (by rw [t5];exact d3) (by rw [t3];omega))
   rw [r,t5,t6,t3,t1,tenP_nat];have key:((N.natAbs / D * 10 ^ l2.length+val l2) * D:Nat)=N.natAbs * 10 ^ l2.length:=by
    rw [Nat.add_mul,d2,Nat.mul_right_comm,←Nat.add_mul,Nat.mul_comm (N.natAbs / D) D,Nat.div_add_mod]
   rw [←mk_mul (k:=(D:Int)) D0,←mk_mul (n:=N) (k:=((10 ^ l2.length:Nat):Int)) (by have:0<10 ^ l2.length:=Nat.pow_pos (by omega);omega),Int.mul_comm (D:Int) ((10 ^ l2.length:Nat):Int)];have key2:(((N.natAbs / D:Nat):Int) * ((10 ^ l2.length:Nat):Int)+(val l2:Int)) * (D:Int)=(N.natAbs:Int) * ((10 ^ l2.length:Nat):Int):=by
    rw [←Int.natCast_mul,←Int.natCast_add,←Int.natCast_mul,key,Int.natCast_mul]
   congr 1
   unfold sgnd;by_cases h:N<0
   ·rw [hm,decide_eq_true h,if_pos rfl,Int.mul_neg,Int.mul_comm (D:Int),key2,←Int.neg_mul,Int.mul_comm];congr 1;omega
   ·rw [hm,decide_eq_false h,if_neg (by decide),Int.mul_comm (D:Int),key2,Int.mul_comm];congr 1;omega
 ·rw [txt_frac hd,hs];obtain ⟨a1,a2,a3⟩:=dd_facts N.natAbs;obtain ⟨d1,d2,d3⟩:=dd_facts D;obtain ⟨s,es⟩:∃ s,s=ByteArray.mk (pf m++(Lib.decDigits N.natAbs++47::Lib.decDigits D)).toArray:=⟨_,rfl⟩
  rw [←es];obtain ⟨t1,t2,t3,t4,t5,t6,t7⟩:=two_at m _ _ 47 (by decide) a1 d1 a3 s es;rw [a2] at t3;rw [d2] at t6;have hB:dB s (aOf s)=true:=by
   unfold dB;rw [t2,t3];exact decide_eq_true ⟨List.length_pos_iff.2 a3,by omega⟩
  have hB2:dB s (aOf s+dk s (aOf s)+1)=true:=by
   unfold dB;rw [t5,t6];exact decide_eq_true ⟨List.length_pos_iff.2 d3,by omega⟩
  have r:=((r_more hB (by omega)).2 hB2 (by rw [t5];exact t7)).1 t4;rw [r,t6,t3,t1,hv _ rfl]
end Go.Proofs.YtlggnpohhahdlaaGreatDoor.Wnum
namespace Go.Proofs.YtlggnpohhahdlaaGreatDoor
open Go.RowKit Go.Shelf
set_option linter.unusedVariables false
def abToks:List Wlx.Tok:=[⟨1,[49],0⟩,⟨5,[43],1⟩,⟨3,[65,49],2⟩]
theorem ab_scan:scanAll [49,43,65,49]=Wlx.Res.ok abToks:=by
 unfold scanAll;rw [if_neg (by decide)];rw [Wlx.scan_tok (k:=1) (n:=1) (by decide) (by decide) (by decide) (by decide) (by decide)];show Wlx.Res.cons _ (Wlx.scan 1 [43,65,49])=_
 rw [Wlx.scan_tok (k:=5) (n:=1) (by decide) (by decide) (by decide) (by decide) (by decide)];show Wlx.Res.cons _ (Wlx.Res.cons _ (Wlx.scan 2 [65,49]))=_
 rw [Wlx.scan_tok (k:=3) (n:=2) (by decide) (by decide) (by decide) (by decide) (by decide)];show Wlx.Res.cons _ (Wlx.Res.cons _ (Wlx.Res.cons _ (Wlx.scan 4 [])))=_
 rw [Wlx.scan_nil];rfl
def abV:Wt.Vl:=⟨1,1,1,⟨#[]⟩,false,0⟩
def abR:Wt.Rf:=⟨⟨#[]⟩,0,0,false,false⟩
def abRow:List Wt.Nd:=[opN 5 11,leafN abV,⟨2,Wt.v0,0,⟨#[]⟩,0,abR,Wt.r0⟩]
theorem dd_1:Lib.decDigits 1=[49]:=by rw [Lib.decDigits_one (by decide)];rfl
theorem txt_1:Wnum.txt 1 1=[49]:=by
 rw [Wnum.txt_whole (by decide) (by decide)];show Wnum.sgnT 1++Lib.decDigits 1=_
 rw [dd_1];rfl
theorem rd_1:Wnum.rdO ⟨#[49]⟩=some 1:=by
 have:=Wnum.txt_reads (N:=1) (D:=1) (by decide) (by decide) (by decide) (by decide) (by decide);rw [txt_1] at this;rw [show (⟨#[49]⟩:ByteArray)=⟨([49]:List UInt8).toArray⟩ from rfl,this];decide +kernel
theorem lit_1:litV ⟨1,[49],0⟩=some abV:=by
 unfold litV;rw [if_pos rfl];show (if Wnum.oB (Wnum.rdO ⟨#[49]⟩)=true then some (vNum (Wnum.oN (Wnum.rdO ⟨#[49]⟩)) (Wnum.oD (Wnum.rdO ⟨#[49]⟩))) else none)=_
 rw [rd_1];have h1:Wnum.oB (some (1:Rat))=true:=by decide +kernel
 have h2:Wnum.oN (some (1:Rat))=1:=by decide +kernel
 have h3:Wnum.oD (some (1:Rat))=1:=by decide +kernel
 rw [if_pos h1,h2,h3];have h4:Wnum.cN 1 1=1:=by decide +kernel
 have h5:Wnum.cD 1 1=1:=by decide +kernel
 unfold vNum;rw [h4,h5];rfl
theorem rf_A1:rfOf [65,49]=abR:=by
 unfold rfOf abR;have h1:Wpl.rdR (undol [65,49])=0:=by decide
 have h2:Wpl.rdC (undol [65,49])=0:=by decide
 rw [h1,h2];rfl
theorem cw_A1:cw abR=[65,49]:=by
 unfold cw;show fx false++Wpl.colS 0++fx false++Lib.decDigits 1=_
 rw [dd_1];decide
theorem rw_A1:rw1 [65,49]=some abR:=by
 unfold rw1;rw [if_pos (by decide),rf_A1,cw_A1,if_pos rfl]
def t1:Wlx.TV:=⟨1,[49],0⟩
def t2:Wlx.TV:=⟨5,[43],1⟩
def t3:Wlx.TV:=⟨3,[65,49],2⟩
theorem more_nil (sub:List Wlx.TV→PR) (k:Int) (n:Nat) (row:List Wt.Nd):more sub k n row []=.inl (row,[]):=by cases n <;> rfl
theorem more_not {sub:List Wlx.TV→PR} {k:Int} {n:Nat} {row:List Wt.Nd} {ts:List Wlx.TV} (h:tkOp k ts=none):more sub k n row ts=.inl (row,ts):=by cases n with
 | zero=>rfl
 | succ n=>simp only [more,h]
theorem pct_not {n:Nat} {row:List Wt.Nd} {ts:List Wlx.TV} (h:tkOp 6 ts=none):pct n row ts=.inl (row,ts):=by cases n with
 | zero=>rfl
 | succ n=>simp only [pct,h]
theorem up {en:Int} {f k:Nat} {ts r:List Wlx.TV} {row:List Wt.Nd} (hk:k<5) (h:lv en f (k+1) ts=.inl (row,r)) (hn:tkOp k r=none):lv en (f+1) k ts=.inl (row,r):=by
 rw [lv_bt _ _ _ hk];unfold pbt;rw [h];exact more_not hn
theorem up6 {en:Int} {f:Nat} {ts r:List Wlx.TV} {row:List Wt.Nd} (h:lv en f 7 ts=.inl (row,r)) (hn:tkOp 6 r=none):lv en (f+1) 6 ts=.inl (row,r):=by
 rw [lv_pc];unfold ppc;rw [h];exact pct_not hn
theorem up5 {en:Int} {f:Nat} {ts:List Wlx.TV} {q:PR} (hn:tkOp 5 ts=none) (h:lv en f 6 ts=q):lv en (f+1) 5 ts=q:=by
 rw [lv_sg];unfold psg;rw [hn];exact h
theorem lv_1 (f:Nat):lv 4 (f+5) 3 [t1,t2,t3]=.inl ([leafN abV],[t2,t3]):=by
 refine up (by decide) (up (by decide) (up5 (by decide) (up6 ?_ (by decide))) (by decide)) (by decide);rw [lv_si];unfold psi;rw [if_neg (by decide),if_neg (by decide)];unfold pl;rw [show hd [t1,t2,t3] 4=⟨1,[49],0⟩ from rfl,lit_1];rfl
theorem lv_3 (f:Nat):lv 4 (f+5) 3 [t3]=.inl ([⟨2,Wt.v0,0,⟨#[]⟩,0,abR,Wt.r0⟩],[]):=by
 refine up (by decide) (up (by decide) (up5 (by decide) (up6 ?_ (by decide))) (by decide)) (by decide);rw [lv_si];unfold psi;rw [if_pos (by decide)];unfold pword;rw [if_neg (by decide),if_neg (by decide),if_neg (by decide),if_neg (by decide)];unfold pcs pc;rw [if_pos (by decide),if_neg (by decide),if_neg (by decide)];rw [show (hd [t3] 4).t=[65,49] from rfl,rw_A1];rfl
theorem ab_prs:prsR [49,43,65,49]=.inl abRow:=by
 have hc:Wt.check abRow=0:=by decide +kernel
 unfold prsR;rw [ab_scan];show prsT 4 [t1,t2,t3]=_
 unfold prsT;show (match pall (lv 4 39 0) 4 [t1,t2,t3] with | .inr e=>_ | .inl (row,_)=>_)=_
 have h2:lv 4 37 2 [t1,t2,t3]=.inl (abRow,[]):=by
  rw [lv_bt _ _ _ (by decide)];unfold pbt;rw [lv_1 31];show more (lv 4 36 3) ((2:Nat):Int) 2 [leafN abV] [t2,t3]=_
  rw [more,show tkOp ((2:Nat):Int) [t2,t3]=some ((11,[43],2),[t3]) from rfl];simp only;rw [lv_3 31];simp only;rw [more_nil];rfl
 have h0:lv 4 39 0 [t1,t2,t3]=.inl (abRow,[]):=up (by decide) (up (by decide) h2 (by decide)) (by decide);unfold pall;rw [h0];simp only;rw [if_pos hc]
theorem ab_prnt:prnt abRow=[49,43,65,49]:=by
 have hc:Wt.check abRow=0:=by decide +kernel
 unfold prnt;rw [if_pos hc];have e1:litT abV=[49]:=by
  unfold litT;rw [if_pos (show abV.k=1 from rfl)];have h4:Wnum.cN 1 1=1:=by decide +kernel
  have h5:Wnum.cD 1 1=1:=by decide +kernel
  show Wnum.txt (Wnum.cN 1 1) (Wnum.cD 1 1).toNat=_
  rw [h4,h5];exact txt_1
 have e2:celT abR=[65,49]:=by
  unfold celT;rw [if_pos (show abR.s=⟨#[]⟩ from rfl),cw_A1]
 have e3:(pr 4 0 abRow).1=litT abV++[43]++celT abR:=by rfl
 show (pr 4 0 abRow).1=_
 rw [e3,e1,e2];rfl
theorem abEq (w:World):(binOp .eql 45 (.agg (nd20 (opN 5 11)).toArray) (.agg #[.int .i64 5,.int .i64 0,.int .i64 0,.int .i64 0,.string ⟨#[]⟩,.bool false,.int .i64 0,.int .i64 11,.string ⟨#[]⟩,.int .i64 0,.string ⟨#[]⟩,.int .i64 0,.int .i64 0,.bool false,.bool false,.string ⟨#[]⟩,.int .i64 0,.int .i64 0,.bool false,.bool false])).run Tryz.prog w=.ok (.bool true) w:=by kernel_rfl
theorem abFit:∀ x ∈ abRow,Wt.FitN x:=by
 intro x hx;simp only [abRow,List.mem_cons,List.not_mem_nil,or_false] at hx;rcases hx with rfl | rfl | rfl
 ·exact fit_op _ _
 ·exact fit_leaf ⟨by decide,by decide,by decide⟩
 ·exact fit_cell 2 (s:=⟨#[]⟩) (by decide) abR Wt.r0 rfl
theorem OwnN.cap {w:World} {B n cap:Nat} {av:Option Addr} {row:List Wt.Nd} (h:OwnN w B (.slice av n cap) row):row.length≤cap:=by
 rcases h.2 with ⟨e,h0⟩ | ⟨g,cap',cur,e,hg,hc,h1,_⟩
 ·omega
 ·simp only [Value.slice.injEq] at e;omega
theorem table_any (w:World) (hE:Env w) (hk8:8≤w.heap.size):Calls Tryz.prog 9 #[] w fun e w'=>e=.returned (.bool true)∧Below w.heap.size w w':=by
 have S:=parse_any ⟨#[49,43,65,49]⟩ w hE (by decide) hk8;have e0:(⟨#[49,43,65,49]⟩:ByteArray).data.toList=[49,43,65,49]:=rfl;rw [e0,ab_prs] at S;simp only [PaPost] at S;clear e0;go_enter Tryz.func9,Tryz.ntmps9;go_wp2_with fail
 refine S.mono ?_;rintro e w1 ⟨⟨v,rfl,hown⟩,hb1⟩;obtain ⟨av,cap,rfl,hrd⟩:=hown.form;have hcap:=hown.cap;have hs1:=hb1.size;have T:=print_any av cap abRow w1 (by decide) abFit (hE.below hb1) hrd hcap (by omega);have hc:Wt.check abRow=0:=by decide +kernel
 rw [ab_prnt,hc] at T;obtain ⟨bb,off,rfl,r0⟩:=hrd 0 (by decide);obtain ⟨bb',off',e,r2⟩:=hrd 2 (by decide);simp only [Option.some.injEq,Addr.mk.injEq,and_true] at e;obtain ⟨rfl,rfl⟩:=e;have hl:abRow.length=3:=rfl;rw [hl] at T hcap ⊢;clear hown S hc hrd;go_wp2_with fail
 refine T.mono ?_;rintro e w2 ⟨rfl,hb2⟩;have q0:w2.rangeAt bb off (nd20 (opN 5 11)):=fun j v hv=>cell_below hb2 (by have:=r0 j v hv;simpa using this)
 have q2:w2.cell? ⟨bb,off+40,none⟩=some (.int .i64 2):=cell_below hb2 (r2 0 _ rfl);have hB2:=hb1.trans (hb2.mono hs1);clear r0 r2 hb1 hb2 T hl;have hEq:=abEq;go_wp2_with ((with_reducible refine wpList_load_want ?_ 45 (.tmp 29) ?_ bb off ?_ (nd20 (opN 5 11)) _ ?_ Tryz.underlying45 ?_ ?_ ?_);rfl;rfl;rfl;exact q0;rfl;kernel_rfl)
 go_ret;exact ⟨rfl,hB2⟩
open Go.RowKit
def intC (ks:List Nat):List Value:=ks.map fun (k:Nat)=>.int .i64 (k:Int)
def OwnI (w:World) (B:Nat) (v:Value) (ks:List Nat):Prop:=w.ownsRow B 3 1 v ks.length (intC ks)
theorem OwnI.below {w w':World} {B:Nat} {v:Value} {ks:List Nat} (h:OwnI w B v ks) (hb:Below w.heap.size w w'):OwnI w' B v ks :=
 World.ownsRow.kept h (row:=none) ⟨hb.os,hb.tape,hb.output,hb.size,fun k hk _=>hb.block k hk⟩ (by cases v.ownBlock <;> simp)
def RdI (w:World) (av:Option Addr) (ks:List Nat):Prop:=∀ i (h:i<ks.length),∃ bb off,av=some ⟨bb,off,none⟩∧w.cell? ⟨bb,off+i,none⟩=some (.int .i64 (ks[i]:Int))
theorem RdI.below {w w':World} {av:Option Addr} {ks:List Nat} (h:RdI w av ks) (hb:Below w.heap.size w w'):RdI w' av ks:=fun i hi=>by
 obtain ⟨bb,off,e,hx⟩:=h i hi;exact ⟨bb,off,e,cell_below hb hx⟩
theorem OwnI.form {w:World} {B:Nat} {v:Value} {ks:List Nat} (h:OwnI w B v ks):∃ av cap,v=.slice av ks.length cap∧RdI w av ks:=by
 rcases h.2 with ⟨e,h0⟩ | ⟨g,cap,cur,e,-,hcur,-,-,hlen,htk⟩
 ·have hk:ks.length=0:=by omega
  exact ⟨none,0,by rw [hk];exact e,fun i hi=>absurd hi (by omega)⟩
 ·refine ⟨some ⟨g,0,none⟩,cap,e,fun i hi=>⟨g,0,rfl,?_⟩⟩;have hg:=World.ownsRow.cellAt (e ▸ h) i (by omega);rw [Nat.zero_add,hg];simp [intC,hi]
def setL:List Value→Nat→List Value→List Value
 | us,_,[]=>us
 | us,o,v::r=>setL (us.set o v) (o+1) r
theorem AtL.setSub {k:Nat}:∀ (vs:List Value) (o:Nat) {W:World} {us:List Value},AtL W k us→AtL (W.setCells k o vs) k (setL us o vs)
 | [],o,W,us,h=>h
 | v::r,o,W,us,h=>by
  rw [World.setCells,setL];exact AtL.setSub r (o+1) (h.set o v)
theorem AtL.sub {W:World} {k:Nat} {us:List Value} (h:AtL W k us) (o:Nat) (vs:List Value) (hv:∀ j v,vs[j]? = some v→us[o+j]? = some v):W.rangeAt k o vs:=fun j v hj=>h.2.1 (o+j) v (hv j v hj)
theorem AtL.thereSub {W:World} {k:Nat} {us:List Value} (h:AtL W k us) (o n:Nat) (hn:o+n≤us.length):W.there k o n:=fun j hj =>
 ⟨by rw [h.2.1 (o+j) (us[o+j]'(by omega)) (List.getElem?_eq_getElem (by omega))];rfl,h.2.2 (o+j) (by omega)⟩
theorem nd_setB {W:World} {k:Nat} {x:Wt.Nd} (h:AtL W k (nd20 x)) (b:Wt.Rf):AtL (W.setCells k 15 (rf5 b)) k (nd20 ⟨x.k,x.v,x.op,x.nm,x.ar,x.a,b⟩):=h.setSub (rf5 b) 15
theorem one5 (a:Wt.Rf):(rf5 a).toArray.all (·.oneCell')=true:=all_oneCell_toArray (fun v hv=>by
 simp only [rf5,List.mem_cons,List.not_mem_nil,or_false] at hv;rcases hv with rfl | rfl | rfl | rfl | rfl <;> rfl)
theorem ownsRow_sub {base n cap g size:Nat} {e:TypeId}:∀ (vs:List Value) (o:Nat) {w:World} {xs:List Value},w.ownsRow base e size (.slice (some ⟨g,0,none⟩) n cap) n xs→(w.setCells g o vs).ownsRow base e size (.slice (some ⟨g,0,none⟩) n cap) n (setL xs o vs)
 | [],o,w,xs,h=>h
 | v::r,o,w,xs,h=>by
  rw [World.setCells,setL];exact ownsRow_sub r (o+1) (World.ownsRow.stored h o v).1
theorem setL_mid:∀ (vs us P S:List Value),us.length=vs.length→setL (P++(us++S)) P.length vs=P++(vs++S)
 | [],us,P,S,h=>by
  have:us=[]:=List.eq_nil_of_length_eq_zero h;subst this;rfl
 | v::r,[],P,S,h=>by cases h
 | v::r,u::us,P,S,h=>by
  have e:(P++(u::us++S)).set P.length v=(P++[v])++(us++S):=by
   rw [List.set_append_right _ _ (Nat.le_refl _),Nat.sub_self];simp
  rw [setL,e];have:=setL_mid r us (P++[v]) S (by simpa using h);rw [List.length_append,List.length_singleton] at this;rw [this];simp
theorem OwnN.put {w:World} {B g n cap:Nat} {A R:List Wt.Nd} {x:Wt.Nd} (h:OwnN w B (.slice (some ⟨g,0,none⟩) n cap) (A++x::R)) (hn:n=(A++x::R).length) (k:Nat) (hk:k=A.length) (y:Wt.Nd) :
  OwnN (w.setCells g (k * 20) (nd20 y)) B (.slice (some ⟨g,0,none⟩) n cap) (A++y::R):=by
 subst hk hn;unfold OwnN at h ⊢;have e:(A++x::R).length=(A++y::R).length:=by simp
 have h1:=ownsRow_sub (nd20 y) (A.length * 20) h;have e1:ndRow (A++x::R)=ndRow A++(nd20 x++ndRow R):=by simp [ndRow]
 have e2:ndRow (A++y::R)=ndRow A++(nd20 y++ndRow R):=by simp [ndRow]
 rw [e1,show A.length * 20=(ndRow A).length from (ndRow_length A).symm,setL_mid (nd20 y) (nd20 x) _ _ rfl] at h1;rw [e2,←e];rw [ndRow_length] at h1;exact h1
theorem OwnN.at {w:World} {B g n cap:Nat} {L:List Wt.Nd} (h:OwnN w B (.slice (some ⟨g,0,none⟩) n cap) L) (hn:n=L.length) (i:Nat) (hi:i<L.length):w.rangeAt g (i * 20) (nd20 L[i])∧w.there g (i * 20) 20:=by
 subst hn;have hc:∀ j,j<20→w.cell? ⟨g,i * 20+j,none⟩=(nd20 L[i])[j]?:=fun j hj=>by
  rw [World.ownsRow.cellAt h _ (by omega)];exact ndRow_get L i hi j hj
 refine ⟨fun j v hv=>?_,fun j hj=>⟨?_,World.ownsRow.frozenAt h _⟩⟩
 ·have hj:j<20:=by
   have:=(List.getElem?_eq_some_iff.1 hv).1;exact this
  rw [hc j hj,hv]
 ·rw [hc j hj,List.getElem?_eq_getElem (show j<(nd20 L[i]).length from hj)];rfl
theorem r2plain_any (b:ByteArray) (w:World) (hs:b.size≤9223372036854775807):Calls Tryz.prog 131 #[.string b] w fun e w'=>e=.returned (.bool (Wv.prts b.data.toList))∧w=w':=by
 obtain ⟨R,hR⟩:∃ R,Wv.prts b.data.toList=R:=⟨_,rfl⟩
 have E0:Hid (R=Wv.prts (b.data.toList.drop 0)):=hR.symm;rw [hR];clear hR;go_enter Tryz.func131,Tryz.ntmps131;go_wp2_with fail
 go_loopg [3] (b.size) (fun gk x wr=>∃ j:Nat,x=.int .i64 j∧gk=b.size - j∧j≤b.size∧Hid (R=Wv.prts (b.data.toList.drop j))∧wr=w)
 case atStart=>exact ⟨0,rfl,rfl,Nat.zero_le _,E0,rfl⟩
 case round =>
  obtain ⟨j,rfl,hg,hj,HR,rfl⟩:=hrel;by_cases hlt:j<b.size
  ·have hli:(j:Int)<(b.size:Int):=by omega
   have hd:=drop_at b j hlt;have hp:=prt_nat (b[j]);by_cases c1:((b[j]).toNat:Int)<32
   ·have E:Hid (R=false):=by show _=_;rw [HR.out,hd,Wv.prts_cons,hp,decide_eq_false (by omega)];rfl
    clear HR hd hp;go_wp2;go_ret;exact ⟨by rw [E.out];rfl,rfl⟩
   ·by_cases c2:(126:Int)<((b[j]).toNat:Int)
    ·have E:Hid (R=false):=by show _=_;rw [HR.out,hd,Wv.prts_cons,hp,decide_eq_false (p:=((b[j]).toNat:Int)≤126) (by omega)];simp
     clear HR hd hp;go_wp2;go_ret;exact ⟨by rw [E.out];rfl,rfl⟩
    ·have E:Hid (R=Wv.prts (b.data.toList.drop (j+1))):=by show _=_;rw [HR.out,hd,Wv.prts_cons,hp,decide_eq_true (by omega),decide_eq_true (by omega)];rfl
     clear HR hd hp;go_wp2_with fail
     go_roundg (b.size - (j+1))
     case rel=>exact ⟨j+1,by simp,rfl,hlt,E,by first | trivial | rfl⟩
     case measure=>omega
  ·have hli:¬ (j:Int)<(b.size:Int):=by omega
   have E:Hid (R=true):=by show _=_;rw [HR.out,drop_end b j hlt];rfl
   clear HR;go_wp2;go_ret;exact ⟨by rw [E.out];rfl,rfl⟩
theorem r2right_0 (n d:Int) (t:ByteArray) (b:Bool) (f:Int) (w:World) :
  Calls Tryz.prog 101 #[.agg #[.int .i64 0,.int .i64 n,.int .i64 d,.string t,.bool b,.int .i64 f]] w fun e w'=>e=.returned (.bool (Wv.right 0 n d t b f))∧Below w.heap.size w w':=by
 rw [←eqV_0];have hq:=eqV_run 0 n d t b f 0 0 0 ⟨#[]⟩ false 0;generalize eqV 0 n d t b f 0 0 0 ⟨#[]⟩ false 0=R at *;go_enter Tryz.func101,Tryz.ntmps101;go_wp2;go_ret;exact ⟨rfl,by with_reducible repeat (first | exact Below.refl _ _ | refine below_drewN ?_ _ | refine Below.setCell ?_ (by first | (simp;done) | (simp;omega) | omega) _ | refine Below.drew ?_ | refine below_end ?_ (by assumption) | refine ball ?_ _)⟩
theorem r2right_1 (n d:Int) (t:ByteArray) (b:Bool) (f:Int) (w:World) (h1:-9223372036854775808≤n) (h2:n≤9223372036854775807) (h3:-9223372036854775808≤d) (h4:d≤9223372036854775807) :
  Calls Tryz.prog 101 #[.agg #[.int .i64 1,.int .i64 n,.int .i64 d,.string t,.bool b,.int .i64 f]] w fun e w'=>e=.returned (.bool (Wv.right 1 n d t b f))∧Below w.heap.size w w':=by
 rw [←eqV_1];have C:=fun w=>rright_any n d w h1 h2 h3 h4
 have hq:=eqV_run 1 n d t b f 1 n d ⟨#[]⟩ false 0;generalize eqV 1 n d t b f 1 n d ⟨#[]⟩ false 0=R at *;generalize Wnum.rightB n d=q at *;have pA:AtL (w.alloc (.cells #[.int .i64 1,.int .i64 n,.int .i64 d,.string t,.bool b,.int .i64 f] 41)) w.heap.size [.int .i64 1,.int .i64 n,.int .i64 d,.string t,.bool b,.int .i64 f]:=AtL.new0 w _ _;cases q
 all_goals
  go_enter Tryz.func101,Tryz.ntmps101;go_wp2_with fail
  refine (C _).mono ?_;rintro e w1 ⟨rfl,hb⟩;have pA1:=AtL.below hb pA;obtain ⟨a0,a1,a2,a3,a4,a5⟩:=pA1.f6;have hB1:=below_end (ball (Below.refl _ w) _) hb;go_wp2;go_ret;exact ⟨by simp,hB1⟩
theorem r2right_2 (n d:Int) (t:ByteArray) (b:Bool) (f:Int) (w:World) (hs:t.size≤9223372036854775807) :
  Calls Tryz.prog 101 #[.agg #[.int .i64 2,.int .i64 n,.int .i64 d,.string t,.bool b,.int .i64 f]] w fun e w'=>e=.returned (.bool (Wv.right 2 n d t b f))∧Below w.heap.size w w':=by
 rw [←eqV_2];have C:=fun w=>r2plain_any t w hs
 have hq:=eqV_run 2 n d t b f 2 0 0 t false 0;generalize eqV 2 n d t b f 2 0 0 t false 0=R at *;generalize Wv.prts t.data.toList=q at *;by_cases hl:t.size≤256
 ·have hli:(t.size:Int)≤256:=by omega
  rw [decide_eq_true hl];cases q
  all_goals
   go_enter Tryz.func101,Tryz.ntmps101;go_wp2_with fail
   refine (C _).mono ?_;rintro e w1 ⟨rfl,rfl⟩;go_wp2;go_ret;exact ⟨by simp,by with_reducible repeat (first | exact Below.refl _ _ | refine below_drewN ?_ _ | refine Below.setCell ?_ (by first | (simp;done) | (simp;omega) | omega) _ | refine Below.drew ?_ | refine below_end ?_ (by assumption) | refine ball ?_ _)⟩
 ·have hli:¬ (t.size:Int)≤256:=by omega
  rw [decide_eq_false hl];cases q
  all_goals
   go_enter Tryz.func101,Tryz.ntmps101;go_wp2_with fail
   refine (C _).mono ?_;rintro e w1 ⟨rfl,rfl⟩;go_wp2;go_ret;exact ⟨by simp,by with_reducible repeat (first | exact Below.refl _ _ | refine below_drewN ?_ _ | refine Below.setCell ?_ (by first | (simp;done) | (simp;omega) | omega) _ | refine Below.drew ?_ | refine below_end ?_ (by assumption) | refine ball ?_ _)⟩
theorem r2right_3 (n d:Int) (t:ByteArray) (b:Bool) (f:Int) (w:World) :
  Calls Tryz.prog 101 #[.agg #[.int .i64 3,.int .i64 n,.int .i64 d,.string t,.bool b,.int .i64 f]] w fun e w'=>e=.returned (.bool (Wv.right 3 n d t b f))∧Below w.heap.size w w':=by
 rw [←eqV_3];have hq:=eqV_run 3 n d t b f 3 0 0 ⟨#[]⟩ b 0;generalize eqV 3 n d t b f 3 0 0 ⟨#[]⟩ b 0=R at *;go_enter Tryz.func101,Tryz.ntmps101;go_wp2;go_ret;exact ⟨rfl,by with_reducible repeat (first | exact Below.refl _ _ | refine below_drewN ?_ _ | refine Below.setCell ?_ (by first | (simp;done) | (simp;omega) | omega) _ | refine Below.drew ?_ | refine below_end ?_ (by assumption) | refine ball ?_ _)⟩
theorem r2right_4 (n d:Int) (t:ByteArray) (b:Bool) (f:Int) (w:World) :
  Calls Tryz.prog 101 #[.agg #[.int .i64 4,.int .i64 n,.int .i64 d,.string t,.bool b,.int .i64 f]] w fun e w'=>e=.returned (.bool (Wv.right 4 n d t b f))∧Below w.heap.size w w':=by
 rw [←eqV_4];have hq:=eqV_run 4 n d t b f 4 0 0 ⟨#[]⟩ false f;generalize eqV 4 n d t b f 4 0 0 ⟨#[]⟩ false f=R at *;unfold Wv.flt;by_cases h1:1≤f
 ·by_cases h8:f≤8
  ·rw [decide_eq_true h1,decide_eq_true h8];go_enter Tryz.func101,Tryz.ntmps101;go_wp2;go_ret;exact ⟨by simp,by with_reducible repeat (first | exact Below.refl _ _ | refine below_drewN ?_ _ | refine Below.setCell ?_ (by first | (simp;done) | (simp;omega) | omega) _ | refine Below.drew ?_ | refine below_end ?_ (by assumption) | refine ball ?_ _)⟩
  ·rw [decide_eq_true h1,decide_eq_false h8];go_enter Tryz.func101,Tryz.ntmps101;go_wp2;go_ret;exact ⟨by simp,by with_reducible repeat (first | exact Below.refl _ _ | refine below_drewN ?_ _ | refine Below.setCell ?_ (by first | (simp;done) | (simp;omega) | omega) _ | refine Below.drew ?_ | refine below_end ?_ (by assumption) | refine ball ?_ _)⟩
 ·rw [decide_eq_false h1];go_enter Tryz.func101,Tryz.ntmps101;go_wp2;go_ret;exact ⟨by simp,by with_reducible repeat (first | exact Below.refl _ _ | refine below_drewN ?_ _ | refine Below.setCell ?_ (by first | (simp;done) | (simp;omega) | omega) _ | refine Below.drew ?_ | refine below_end ?_ (by assumption) | refine ball ?_ _)⟩
theorem r2right_n (k n d:Int) (t:ByteArray) (b:Bool) (f:Int) (w:World) (hk:k<0 ∨ 4<k) :
  Calls Tryz.prog 101 #[.agg #[.int .i64 k,.int .i64 n,.int .i64 d,.string t,.bool b,.int .i64 f]] w fun e w'=>e=.returned (.bool (Wv.right k n d t b f))∧Below w.heap.size w w':=by
 have E:Hid (Wv.right k n d t b f=false):=by
  show _=_
  unfold Wv.right;rw [if_neg (by omega),if_neg (by omega),if_neg (by omega),if_neg (by omega),if_neg (by omega)]
 rw [E.out];clear E;have k0:(k == 0)=false:=by rw [beq_eq_false_iff_ne];omega
 have k1:(k == 1)=false:=by rw [beq_eq_false_iff_ne];omega
 have k2:(k == 2)=false:=by rw [beq_eq_false_iff_ne];omega
 have k3:(k == 3)=false:=by rw [beq_eq_false_iff_ne];omega
 have k4:(k == 4)=false:=by rw [beq_eq_false_iff_ne];omega
 clear hk;go_enter Tryz.func101,Tryz.ntmps101;go_wp2;go_ret;exact ⟨rfl,by with_reducible repeat (first | exact Below.refl _ _ | refine below_drewN ?_ _ | refine Below.setCell ?_ (by first | (simp;done) | (simp;omega) | omega) _ | refine Below.drew ?_ | refine below_end ?_ (by assumption) | refine ball ?_ _)⟩
theorem r2right_any (v:Wt.Vl) (w:World) (hf:Wt.FitV v) :
  Calls Tryz.prog 101 #[.agg #[.int .i64 v.k,.int .i64 v.n,.int .i64 v.d,.string v.t,.bool v.b,.int .i64 v.f]] w fun e w'=>e=.returned (.bool (Wv.right v.k v.n v.d v.t v.b v.f))∧Below w.heap.size w w':=by
 obtain ⟨k,n,d,t,b,f⟩:=v;obtain ⟨⟨h1,h2⟩,⟨h3,h4⟩,hs⟩:=hf;simp only at *;by_cases k0:k=0
 ·subst k0;exact r2right_0 n d t b f w
 by_cases k1:k=1
 ·subst k1;exact r2right_1 n d t b f w h1 h2 h3 h4
 by_cases k2:k=2
 ·subst k2;exact r2right_2 n d t b f w hs
 by_cases k3:k=3
 ·subst k3;exact r2right_3 n d t b f w
 by_cases k4:k=4
 ·subst k4;exact r2right_4 n d t b f w
 exact r2right_n k n d t b f w (by omega)
end Go.Proofs.YtlggnpohhahdlaaGreatDoor
