/- PlainV, TPr, WalkDg, WalkDc, TWr, TPrLen, TPrOk. -/
import Derived.Test.YtdghjlmnlodnlaaGreatDoorQ27
import Derived.Lib.Builder
import Derived.Laws.Externs
import Derived.BigCall
import Derived.Lib.AppendStr
import Derived.Lib.UnsafeStr
import Derived.Lib.FrozenHead
set_option maxHeartbeats 2000000
set_option maxRecDepth 100000
namespace Go.Proofs.YtdghjlmnlodnlaaGreatDoor.Wnum
def decs (d:Nat):Nat->Nat->List UInt8
 | 0,_=>[]
 | k+1,r=>if r=0 then [] else UInt8.ofNat (48+r * 10 / d)::decs d k (r * 10 % d)
def fu (d:Nat):Nat->Nat->Nat
 | 0,_=>0
 | k+1,r=>if r=0 then 0 else fu d k (r * 10 % d)+1
theorem decs_zero (d k:Nat):decs d k 0=[]:=by cases k <;> rfl
theorem decs_more {d k r:Nat} (h:r ≠ 0):decs d (k+1) r=UInt8.ofNat (48+r * 10 / d)::decs d k (r * 10 % d):=if_neg h
theorem zJO (d k:Nat):fu d k 0=0:=by cases k <;> rfl
theorem zGm {d k r:Nat} (h:r ≠ 0):fu d (k+1) r=fu d k (r * 10 % d)+1:=if_neg h
theorem ends_step {d k r:Nat} (h:r * 10 ^ (k+1) % d=0):r * 10 % d * 10 ^ k % d=0:=by
 rw [Nat.mod_mul_mod,Nat.mul_assoc,<-Nat.pow_succ'];exact h
theorem ends_zero {d r:Nat} (hr:r<d) (h:r * 10 ^ 0 % d=0):r=0:=by
 rw [Nat.pow_zero,Nat.mul_one,Nat.mod_eq_of_lt hr] at h;exact h
theorem zKg {d:Nat} (hd:0<d):∀ k r,r<d->r * 10 ^ k % d=0->fu d (k+1) r=fu d k r:=by
 intro k;induction k with
 | zero=>intro r hr h;rw [ends_zero hr h];rfl
 | succ k ih =>
  intro r hr h;by_cases h0:r=0
  ·rw [h0,zJO,zJO]
  ·rw [zGm h0,ih _ (Nat.mod_lt _ hd) (ends_step h)];exact (zGm h0).symm
theorem fu_less {d k r:Nat} (hd:0<d) (hr:r<d) (h0:r ≠ 0) (hk:k+1<=6) (h:r * 10 ^ (k+1) % d=0):fu d 6 (r * 10 % d)<fu d 6 r:=by
 have up:∀ j m x,x<d->x * 10 ^ m % d=0->fu d (m+j) x=fu d m x:=by
  intro j;induction j with
  | zero=>intro m x _ _;rfl
  | succ j ih =>
   intro m x hx hm;rw [show m+(j+1)=(m+j)+1 by omega,zKg hd (m+j) x hx (by rw [Nat.pow_add,<-Nat.mul_assoc,Nat.mul_mod,hm,Nat.zero_mul,Nat.zero_mod]),ih m x hx hm]
 have e1:=up (6 - (k+1)) (k+1) r hr h;have e2:=up (6 - k) k (r * 10 % d) (Nat.mod_lt _ hd) (ends_step h);rw [show k+1+(6 - (k+1))=6 by omega] at e1;rw [show k+(6 - k)=6 by omega] at e2;rw [e1,e2,zGm h0];omega
def sgnT (N:Int):List UInt8:=if N<0 then [45] else []
def txt (N:Int) (D:Nat):List UInt8 :=
 sgnT N++(if 1000000 % D ≠ 0 then Lib.decDigits N.natAbs++47::Lib.decDigits D else if N.natAbs % D=0 then Lib.decDigits (N.natAbs / D) else Lib.decDigits (N.natAbs / D)++46::decs D 6 (N.natAbs % D))
theorem txt_frac {N:Int} {D:Nat} (h:1000000 % D ≠ 0):txt N D=sgnT N++(Lib.decDigits N.natAbs++47::Lib.decDigits D):=by unfold txt;rw [if_pos h]
theorem txt_whole {N:Int} {D:Nat} (h:1000000 % D=0) (h':N.natAbs % D=0):txt N D=sgnT N++Lib.decDigits (N.natAbs / D):=by unfold txt;rw [if_neg (by omega),if_pos h']
theorem txt_point {N:Int} {D:Nat} (h:1000000 % D=0) (h':N.natAbs % D ≠ 0):txt N D=sgnT N++(Lib.decDigits (N.natAbs / D)++46::decs D 6 (N.natAbs % D)):=by unfold txt;rw [if_neg (by omega),if_neg h']
theorem itoa_sgn (N:Int):Lib.itoa N=sgnT N++Lib.decDigits N.natAbs:=by
 unfold Lib.itoa sgnT;by_cases h:N<0
 ·rw [if_pos h,if_pos h];rfl
 ·rw [if_neg h,if_neg h,show N.toNat=N.natAbs by omega];rfl
theorem ends_six {d r:Nat} (h:1000000 % d=0):r * 10 ^ 6 % d=0:=by
 rw [show (10:Nat) ^ 6=1000000 by decide,Nat.mul_mod,h,Nat.mul_zero,Nat.zero_mod]
theorem decs_length (d:Nat):∀ k r,(decs d k r).length<=k:=by
 intro k;induction k with
 | zero=>intro r;exact Nat.le_refl _
 | succ k ih =>
  intro r;by_cases h:r=0
  ·rw [h,decs_zero];exact Nat.zero_le _
  ·rw [decs_more h,List.length_cons];have:=ih (r * 10 % d);omega
end Go.Proofs.YtdghjlmnlodnlaaGreatDoor.Wnum
namespace Go.Proofs.YtdghjlmnlodnlaaGreatDoor
open Go.RowKit Go.Shelf Tryz
set_option linter.unusedVariables false
variable {B b f s d u:Nat} {w w':World} {bs:List Value} {lf p v:Value} {x:Wt.Nd} {a:Wt.Rf} {l:List Wt.Nd}
def tgh (x:Wt.Nd):Int:=match Wt.opOf x.op with | some o=>o.2.2 | none=>7
def mrk (x:Wt.Nd):List UInt8:=match Wt.opOf x.op with | some o=>o.2.1 | none=>[]
def zGG (v:Wt.Vl):List UInt8 :=
 if v.k=1 then Wnum.txt (Wnum.cN v.n v.d) (Wnum.cD v.n v.d).toNat
 else if v.k=2 then 34::(Wlx.dbl v.t.data.toList++[34])
 else if v.k=3 then (if v.b then [84,82,85,69] else [70,65,76,83,69])
 else fNames.getD v.f.toNat []
def zCM (a:Wt.Rf):List UInt8:=if a.s=⟨#[]⟩ then cw a else a.s.data.toList++(33::cw a)
def prA (sub:Int->List Wt.Nd->List UInt8 × List Wt.Nd):Nat->Bool->List Wt.Nd->List UInt8 × List Wt.Nd
 | 0,_,l=>([],l)
 | n+1,first,l=>((if first then [] else [44])++(sub 0 l).1++(prA sub n false (sub 0 l).2).1,(prA sub n false (sub 0 l).2).2)
def prS (sub:Int->List Wt.Nd->List UInt8 × List Wt.Nd) (x:Wt.Nd) (r:List Wt.Nd):List UInt8 × List Wt.Nd :=
 if x.k=1 then (zGG x.v,r)
 else if x.k=2 then (zCM x.a,r)
 else if x.k=3 then (zCM x.a++58::zCM x.b,r)
 else (x.nm.data.toList++[40]++(prA sub x.ar.toNat true r).1++[41],(prA sub x.ar.toNat true r).2)
def prN (sub:Int->List Wt.Nd->List UInt8 × List Wt.Nd) (x:Wt.Nd) (r:List Wt.Nd):List UInt8 × List Wt.Nd :=
 if tgh x=7 then prS sub x r
 else if tgh x=5 then (mrk x++(sub 5 r).1,(sub 5 r).2)
 else if tgh x=6 then ((sub 6 r).1++mrk x,(sub 6 r).2)
 else ((sub (tgh x) r).1++mrk x++(sub (tgh x+1) (sub (tgh x) r).2).1,(sub (tgh x+1) (sub (tgh x) r).2).2)
def pr:Nat->Int->List Wt.Nd->List UInt8 × List Wt.Nd
 | 0,_,l=>([],l)
 | _+1,_,[]=>([],[])
 | f+1,least,x::r=>if least<=tgh x then prN (pr f) x r else (40::(prN (pr f) x r).1++[41],(prN (pr f) x r).2)
open Go.RowKit Tryz
theorem zLQ (u:Nat):(((UInt8.ofNat (48+u % 10)).toNat:Nat):Int)=48+(u:Int) % 10:=by
 have h:(UInt8.ofNat (48+u % 10)).toNat=48+u % 10:=by
  rw [UInt8.toNat_ofNat'];exact Nat.mod_eq_of_lt (by omega)
 rw [h];omega
theorem zL4 (u:Nat) (c:UInt8) (w:World) (hc:((c.toNat:Nat):Int)=48+(u:Int) % 10) :
  (convert 82 9 (.slice (some ⟨w.heap.size,0,none⟩) 1 1)).run prog (w.alloc (.cells #[.int .u8 (48+(u:Int) % 10)] 5))=.ok (.string ⟨#[c]⟩) (w.alloc (.cells #[.int .u8 (48+(u:Int) % 10)] 5)):=by
 have:=run_convert_bytes_back (P:=prog) (w.alloc (.cells #[.int .u8 (48+(u:Int) % 10)] 5)) 82 9 5 ⟨w.heap.size,0,none⟩ 1 [c] underlying82 underlying5 underlying9 (by
  intro j hj;obtain rfl:j=0:=by simp at hj;omega
  simp [Addr.add,go_sem,hc])
 exact this
theorem zAu (a b:List UInt8):((⟨a.toArray⟩:ByteArray)++(⟨b.toArray⟩:ByteArray))=⟨(a++b).toArray⟩:=by
 apply ByteArray.ext
 rw [ByteArray.data_append];simp
theorem dd_len (n:Nat) (h:n<=9223372036854775807):(Lib.decDigits n).length<=21:=by
 have:=Lib.itoa_length_le (n:Int) (by omega) (by omega);unfold Lib.itoa at this;rw [if_neg (by omega),Int.toNat_natCast] at this;exact this
theorem zEp (h:u<10):Lib.decDigits u=[UInt8.ofNat (48+u % 10)]:=by
 unfold Lib.decDigits;rw [dif_pos h,Nat.mod_eq_of_lt h]
theorem zPB (h:¬ u<10):Lib.decDigits u=Lib.decDigits (u / 10)++[UInt8.ofNat (48+u % 10)]:=by
 conv=>lhs;unfold Lib.decDigits
 rw [dif_neg h]
theorem zAj (n:Nat) (w:World) (hn:n<=9223372036854775807) :
  CR 123 #[.int .u64 (n:Int)] w (.string ⟨(Lib.decDigits n).toArray⟩):=by
 have DL:=dd_len n hn;go_enter func123,ntmps123;go_wp2;go_loopw [0,3] (λx s wr=>∃ (u:Nat) (l:List UInt8),x=.int .u64 u/\s=.string ⟨l.toArray⟩/\u<=9223372036854775807/\Hid (Lib.decDigits n=Lib.decDigits u++l)/\Below w.heap.size w wr) (λx _ _=>(intOf x).toNat)
 case atStart=>exact ⟨n,[],rfl,rfl,hn,(by rw [List.append_nil]:Lib.decDigits n=Lib.decDigits n++[]),Below.refl _ _⟩
 case round =>
  obtain ⟨u,l,rfl,rfl,hu,HI,qB⟩:=hrel;have ll:l.length<=21:=by
   have:=congrArg List.length HI.out;rw [List.length_append] at this;omega
  obtain ⟨c,ec⟩:∃ c,c=UInt8.ofNat (48+u % 10):=⟨_,rfl⟩
  have hc:=zLQ u;rw [<-ec] at hc;have hcv:=zL4 u c wr hc;have EC:Hid (c=UInt8.ofNat (48+u % 10)):=ec;clear ec;have hB:=zAI qB (.cells #[.int .u8 (48+(u:Int) % 10)] 5);by_cases h10:u<10
  ·have E:Hid (Lib.decDigits n=c::l):=by show _=_;rw [HI.out,zEp h10,EC.out];rfl
   have q0:((u:Int) / 10 == 0)=true:=by rw [beq_iff_eq];omega
   go_wp2;go_ret;refine ⟨?_,hB⟩;rw [E.out];exact congrArg (λx=>Ending.returned (Value.string x)) (zAu [c] l)
  ·have E:Hid (Lib.decDigits n=Lib.decDigits (u / 10)++(c::l)):=by show _=_;rw [HI.out,zPB h10,EC.out,List.append_assoc];rfl
   have q0:((u:Int) / 10 == 0)=false:=by rw [beq_eq_false_iff_ne];omega
   go_wp2;go_roundw
   case rel=>exact ⟨u / 10,c::l,by go_num,congrArg Value.string (zAu [c] l),by omega,E,hB⟩
   case measure=>simp [intOf];omega
theorem zST:liesAt prog prog.depth 84 (2 / prog.cellsOf 84) 0 84 1=true:=by kernel_rfl
theorem zMZ:(prog.info? 84).map (λi=>i.size)=some 2:=by kernel_rfl
theorem zNh (h:Lib.BuilderAt 84 5 B b (.pointer none) bs w) :
  Calls prog 89 #[.pointer (some ⟨b,0,none⟩)] w λe w'=>e=.returned (.tuple #[])/\w'=w.setCell ⟨b,0,none⟩ (.pointer (some ⟨b,0,none⟩)):=by
 have c0:=h.cell0;have f0:=h.frozen0;have hsh:=h.shape;obtain ⟨j,hj,hjs⟩:=Option.map_eq_some_iff.1 zMZ;have k1:=Lib.run_to_unsafe (P:=prog) w ⟨b,0,none⟩ underlying81 underlying163 hj (by rw [hjs];decide) hsh (Nat.zero_lt_succ 1);have k2:=Lib.run_from_unsafe (P:=prog) w ⟨b,0,none⟩ underlying163 underlying81 hj hsh zST;have k3:(callFunc 119 #[.pointer (some ⟨b,0,none⟩)]).run prog w=.ok (.value (.pointer (some ⟨b,0,none⟩))) w:=by
  rw [run_callFunc_extern func119 (by kernel_rfl) (by kernel_rfl) (by kernel_rfl) (e:=Extern.AbiNoEscape.same) (by kernel_rfl),Lib.run_noEscape];rfl
 go_enter func89,ntmps89;go_wp2;go_end0
 exact ⟨rfl,rfl⟩
theorem zOV (h:Lib.BuilderAt 84 5 B b (.pointer (some ⟨b,0,none⟩)) bs w) :
  Calls prog 89 #[.pointer (some ⟨b,0,none⟩)] w λe w'=>e=.returned (.tuple #[])/\w'=w:=by
 have c0:=h.cell0;obtain ⟨j,hj,hjs⟩:=Option.map_eq_some_iff.1 zMZ;have k1:=Lib.run_neq_ptr_same (P:=prog) w ⟨b,0,none⟩ underlying81 hj;go_enter func89,ntmps89;go_wp2;go_end0
 exact ⟨rfl,rfl⟩
theorem zH6:(prog.info? 5).map (λi=>(i.zero,i.size,i.bytes))=some (some (.int .u8 0),1,1):=by kernel_rfl
theorem zS9 (c:Int) (w:World) (h:Lib.IsBuilder 84 5 B b bs w) (hlen:bs.length<=1000) (hBw:B<=w.heap.size) :
  Calls prog 181 #[.pointer (some ⟨b,0,none⟩),.int .u8 c] w λe w'=>e=.returned .nilIface/\Lib.IsBuilder 84 5 B b (bs++[.int .u8 c]) w'/\Below B w w':=by
 have CC:Calls prog 89 #[.pointer (some ⟨b,0,none⟩)] w λe w'=>e=.returned (.tuple #[])/\Lib.BuilderAt 84 5 B b (.pointer (some ⟨b,0,none⟩)) bs w'/\Below B w w':=by
  rcases h with h | h
  ·exact (zNh h).mono λe w' ⟨he,hw⟩=>⟨he,by rw [hw];exact h.used _,by rw [hw];exact (Below.refl B w).setCell (p:=⟨b,0,none⟩) h.1 _⟩
  ·exact (zOV h).mono λe w' ⟨he,hw⟩=>⟨he,by rw [hw];exact h,by rw [hw];exact Below.refl B w⟩
 obtain ⟨i0,hi,hz0,hz1,hz2⟩:=info_parts zH6;go_enter func181,ntmps181;go_wp2_with (go_at_call 89;refine CC.mono ?_)
 rintro e w1 ⟨rfl,hat,hb1⟩;have hlt:=hat.lt;obtain ⟨hB,v,hbk,hown,hne⟩:=hat;have s1:=hb1.size;have x1:w1.cell? ⟨b,1,none⟩=some v:=by rw [Lib.cell_of_heap hbk];rfl
 have news:∀ j u,[Value.int .u8 c][j]? = some u->(w1.alloc (.cells #[.int .u8 c] 5)).cell? ((⟨w1.heap.size,0,none⟩:Addr).add j)=some u:=by
  intro j u hj;cases j with
  | zero=>simp at hj;subst hj;simp [Addr.add,go_sem]
  | succ j=>simp at hj
 go_wp2_with (at_builtin;refine wpList_append_own _ rfl _ _ 82 rfl B 5 i0 (.int .u8 0) 1 1 underlying82 hi hz0 hz1 hz2 rfl (by decide) _ _ _ rfl (hown.alloc _) ⟨w1.heap.size,0,none⟩ 1 1 [.int .u8 c] rfl rfl news (by intro u hu;simp at hu;subst hu;rfl) (by unfold maxLen;omega) (by omega) (by simp;omega) ?_)
 intro v2 w2 hown2 hgrow _;have hk2:w2.heap[b]? = some (.cells #[.pointer (some ⟨b,0,none⟩),v] 84 (0,0)):=by
  rw [hgrow.block b (by simp;omega) (λe=>hne e.symm),Lib.alloc_old w1 _ b hlt];exact hbk
 have y0:w2.cell? ⟨b,0,none⟩=some (.pointer (some ⟨b,0,none⟩)):=by rw [Lib.cell_of_heap hk2];rfl
 have y1:w2.cell? ⟨b,1,none⟩=some v:=by rw [Lib.cell_of_heap hk2];rfl
 have y2:w2.frozen? ⟨b,1,none⟩=false:=Lib.frozen_of_heap hk2 1;have hB2:=(hb1.alloc (by omega) (.cells #[.int .u8 c] 5)).grown hgrow (by simp;omega) (λk hk=>(hown.lt k hk).1);obtain ⟨g,cap,rfl⟩:∃ g cap,v2=.slice (some ⟨g,0,none⟩) (bs.length+1) cap:=by
  rcases hown2.2 with ⟨_,h0⟩ | ⟨g,cap,cur,hv,_⟩
  ·omega
  ·exact ⟨g,cap,hv⟩
 go_wp2;go_ret;exact ⟨rfl,Or.inr (Lib.BuilderAt.put hB hk2 (bs':=bs++[.int .u8 c]) (by simpa using hown2) (by decide)),hB2.setCell (p:=⟨b,1,none⟩) hB _⟩
theorem zRu:liesAt prog prog.depth 86 (3 / prog.cellsOf 86) 0 84 1=true:=by kernel_rfl
def WrAt (B b:Nat) (p:Value) (bs:List Value) (lf:Value) (w:World):Prop :=
 B<=b/\∃ v,w.heap[b]? = some (.cells #[p,v,lf] 86 (0,0))/\w.ownsRow B 5 1 v bs.length bs/\v.ownBlock ≠ some b
def IsWr (B b:Nat) (bs:List Value) (lf:Value) (w:World):Prop:=WrAt B b (.pointer none) bs lf w \/ WrAt B b (.pointer (some ⟨b,0,none⟩)) bs lf w
theorem WrAt.lt (h:WrAt B b p bs lf w):b<w.heap.size:=by
 obtain ⟨_,v,hb,_⟩:=h;exact (Array.getElem?_eq_some_iff.1 hb).1
theorem WrAt.set0 (h:WrAt B b p bs lf w) (q:Value):WrAt B b q bs lf (w.setCell ⟨b,0,none⟩ q):=by
 obtain ⟨hB,v,hb,hown,hne⟩:=h;refine ⟨hB,v,by simp [World.setCell,Array.getElem?_modify,hb],?_,hne⟩;exact hown.kept (row:=some b) ⟨rfl,rfl,rfl,by simp [World.setCell],λk _ hk=>Below.heap_setCell _ _ _ _ (λe=>hk (by simp [e]))⟩ (Or.inr hne)
theorem WrAt.set2 (h:WrAt B b p bs lf w) (q:Value):WrAt B b p bs q (w.setCell ⟨b,2,none⟩ q):=by
 obtain ⟨hB,v,hb,hown,hne⟩:=h;refine ⟨hB,v,by simp [World.setCell,Array.getElem?_modify,hb],?_,hne⟩;exact hown.kept (row:=some b) ⟨rfl,rfl,rfl,by simp [World.setCell],λk _ hk=>Below.heap_setCell _ _ _ _ (λe=>hk (by simp [e]))⟩ (Or.inr hne)
theorem WrAt.put {v':Value} {bs':List Value} (hB:B<=b) (hb:w.heap[b]? = some (.cells #[p,v,lf] 86 (0,0))) (hown:w.ownsRow B 5 1 v' bs'.length bs') :
  WrAt B b p bs' lf (w.setCell ⟨b,1,none⟩ v'):=by
 have hne:=Lib.ownBlock_ne hown hb (by decide);refine ⟨hB,v',by simp [World.setCell,Array.getElem?_modify,hb],?_,hne⟩;exact hown.kept (row:=some b) ⟨rfl,rfl,rfl,by simp [World.setCell],λk _ hk=>Below.heap_setCell _ _ _ _ (λe=>hk (by simp [e]))⟩ (Or.inr hne)
theorem WrAt.below (h:WrAt B b p bs lf w) (hb:Below w.heap.size w w'):WrAt B b p bs lf w':=by
 obtain ⟨hB,v,hk,hown,hne⟩:=h;exact ⟨hB,v,(hb.block b (Array.getElem?_eq_some_iff.1 hk).1).trans hk,hown.kept (row:=none) ⟨hb.os,hb.tape,hb.output,hb.size,λk hk _=>hb.block k hk⟩ (by cases v.ownBlock <;> simp),hne⟩
theorem IsWr.below (h:IsWr B b bs lf w) (hb:Below w.heap.size w w'):IsWr B b bs lf w':=h.elim (λx=>.inl (x.below hb)) (λx=>.inr (x.below hb))
theorem IsWr.set2 (h:IsWr B b bs lf w) (q:Value):IsWr B b bs q (w.setCell ⟨b,2,none⟩ q):=h.elim (λx=>.inl (x.set2 q)) (λx=>.inr (x.set2 q))
theorem IsWr.lt (h:IsWr B b bs lf w):b<w.heap.size:=h.elim (λx=>x.lt) (λx=>x.lt)
theorem IsWr.le (h:IsWr B b bs lf w):B<=b:=h.elim (λx=>x.1) (λx=>x.1)
theorem IsWr.left (h:IsWr B b bs lf w):w.cell? ⟨b,2,none⟩=some lf/\w.frozen? ⟨b,2,none⟩=false:=by
 rcases h with ⟨_,v,hk,_⟩ | ⟨_,v,hk,_⟩ <;> exact ⟨by rw [Lib.cell_of_heap hk];rfl,Lib.frozen_of_heap hk 2⟩
theorem zES {B:Nat} {b:Option Nat} (hb:Below w.heap.size w w'):Lib.OthersKept 5 b w w':=λk o hk _ _=>(hb.block k (Array.getElem?_eq_some_iff.1 hk).1).trans hk
theorem zMR {e:TypeId} {n:Nat} {xs:List Value} (h:w.ownsRow B e 1 v n xs):∀ g,v.ownBlock=some g->∃ c fz,w.heap[g]? = some (.cells c e fz):=by
 intro g hg;rcases h.2 with ⟨rfl,_⟩ | ⟨g',cap,cur,rfl,_,hgg,_⟩
 ·simp [Value.ownBlock] at hg
 ·simp [Value.ownBlock] at hg;subst hg;exact ⟨cur,_,hgg⟩
theorem zSt (h:WrAt B b (.pointer none) bs lf w) :
  Calls prog 89 #[.pointer (some ⟨b,0,none⟩)] w λe w'=>e=.returned (.tuple #[])/\w'=w.setCell ⟨b,0,none⟩ (.pointer (some ⟨b,0,none⟩)):=by
 obtain ⟨hB,v,hbk,hown,hne⟩:=h;have c0:w.cell? ⟨b,0,none⟩=some (.pointer none):=by rw [Lib.cell_of_heap hbk];rfl
 have f0:w.frozen? ⟨b,0,none⟩=false:=Lib.frozen_of_heap hbk 0;have hsh:w.shape? b=some (86,3):=by simp [World.shape?,hbk]
 obtain ⟨j,hj,hjs⟩:=Option.map_eq_some_iff.1 zMZ;have k1:=Lib.run_to_unsafe (P:=prog) w ⟨b,0,none⟩ underlying81 underlying163 hj (by rw [hjs];decide) hsh (Nat.zero_lt_succ 2);have k2:=Lib.run_from_unsafe (P:=prog) w ⟨b,0,none⟩ underlying163 underlying81 hj hsh zRu;have k3:(callFunc 119 #[.pointer (some ⟨b,0,none⟩)]).run prog w=.ok (.value (.pointer (some ⟨b,0,none⟩))) w:=by
  rw [run_callFunc_extern func119 (by kernel_rfl) (by kernel_rfl) (by kernel_rfl) (e:=Extern.AbiNoEscape.same) (by kernel_rfl),Lib.run_noEscape];rfl
 go_enter func89,ntmps89;go_wp2;go_end0
 exact ⟨rfl,rfl⟩
theorem zSm (h:WrAt B b (.pointer (some ⟨b,0,none⟩)) bs lf w) :
  Calls prog 89 #[.pointer (some ⟨b,0,none⟩)] w λe w'=>e=.returned (.tuple #[])/\w'=w:=by
 obtain ⟨hB,v,hbk,hown,hne⟩:=h;have c0:w.cell? ⟨b,0,none⟩=some (.pointer (some ⟨b,0,none⟩)):=by rw [Lib.cell_of_heap hbk];rfl
 obtain ⟨j,hj,hjs⟩:=Option.map_eq_some_iff.1 zMZ;have k1:=Lib.run_neq_ptr_same (P:=prog) w ⟨b,0,none⟩ underlying81 hj;go_enter func89,ntmps89;go_wp2;go_end0
 exact ⟨rfl,rfl⟩
theorem zOL (B b:Nat) (l:List UInt8) (lf:Value) (s:List UInt8) (w:World) (h:IsWr B b (Lib.byteCells l) lf w) (hlen:l.length+s.length<=10000000) :
  Calls prog 59 #[.pointer (some ⟨b,0,none⟩),.string ⟨s.toArray⟩] w λe w'=>e=.returned (.tuple #[.int .i64 s.length,.nilIface])/\IsWr B b (Lib.byteCells (l++s)) lf w'/\Below B w w'/\Lib.OthersKept 5 (some b) w w':=by
 have hBw:B<=w.heap.size:=Nat.le_of_lt (Nat.lt_of_le_of_lt h.le h.lt);have CC:Calls prog 89 #[.pointer (some ⟨b,0,none⟩)] w λe w'=>e=.returned (.tuple #[])/\WrAt B b (.pointer (some ⟨b,0,none⟩)) (Lib.byteCells l) lf w'/\Below B w w'/\Lib.OthersKept 5 (some b) w w':=by
  rcases h with h | h
  ·exact (zSt h).mono λe w' ⟨he,hw⟩=>⟨he,by rw [hw];exact h.set0 _,by rw [hw];exact (Below.refl B w).setCell (p:=⟨b,0,none⟩) h.1 _,by rw [hw];exact (Lib.OthersKept.refl _ _ w).setCell ⟨b,0,none⟩ rfl _⟩
  ·exact (zSm h).mono λe w' ⟨he,hw⟩=>⟨he,by rw [hw];exact h,by rw [hw];exact Below.refl B w,by rw [hw];exact Lib.OthersKept.refl _ _ w⟩
 obtain ⟨i0,hi,hz0,hz1,hz2⟩:=info_parts zH6;have hls:(⟨s.toArray⟩:ByteArray).size=s.length:=by simp [ByteArray.size]
 go_enter func59,ntmps59;go_wp2_with (go_at_call 89;refine CC.mono ?_)
 rintro e w1 ⟨rfl,hat,hb1,hk1⟩;have hlt:=hat.lt;obtain ⟨hB,v,hbk,hown,hne⟩:=hat;have s1:=hb1.size;have hll:(Lib.byteCells l).length=l.length:=Lib.byteCells_length l;have x1:w1.cell? ⟨b,1,none⟩=some v:=by rw [Lib.cell_of_heap hbk];rfl
 go_wp2_with (at_builtin;refine Lib.wpList_append_own_string _ rfl _ _ 82 9 rfl B 5 i0 underlying82 underlying9 hi hz0 hz1 hz2 _ _ _ rfl hown ⟨s.toArray⟩ rfl (by rw [hls,hll];unfold maxLen;omega) (by rw [hls,hll];omega) (by omega) ?_)
 intro v2 w2 hown2 hgrow _;have hk2:w2.heap[b]? = some (.cells #[.pointer (some ⟨b,0,none⟩),v,lf] 86 (0,0)):=by
  rw [hgrow.block b hlt (λe=>hne e.symm)];exact hbk
 have y0:w2.cell? ⟨b,0,none⟩=some (.pointer (some ⟨b,0,none⟩)):=by rw [Lib.cell_of_heap hk2];rfl
 have y1:w2.cell? ⟨b,1,none⟩=some v:=by rw [Lib.cell_of_heap hk2];rfl
 have y2:w2.frozen? ⟨b,1,none⟩=false:=Lib.frozen_of_heap hk2 1;have hB2:=hb1.grown hgrow (by omega) (λk hk=>(hown.lt k hk).1);have hK2:=(hk1.grown hgrow (zMR hown)).setCell ⟨b,1,none⟩ rfl v2;have hown3:w2.ownsRow B 5 1 v2 (Lib.byteCells (l++s)).length (Lib.byteCells (l++s)):=by
  have e1:Lib.byteCells (l++s)=Lib.byteCells l++Lib.strCells ⟨s.toArray⟩:=by rw [Lib.strCells_eq,<-Lib.byteCells_append]
  have e2:(Lib.byteCells (l++s)).length=l.length+s.length:=by rw [Lib.byteCells_length,List.length_append]
  rw [e2,e1];exact hown2
 obtain ⟨ao,n',cap,rfl⟩:∃ ao n' cap,v2=.slice ao n' cap:=by
  rcases hown2.2 with ⟨hv,_⟩ | ⟨g,cap,cur,hv,_⟩
  ·exact ⟨_,_,_,hv⟩
  ·exact ⟨_,_,_,hv⟩
 go_wp2;go_ret2
 exact ⟨by simp,Or.inr (WrAt.put hB hk2 hown3),hB2.setCell (p:=⟨b,1,none⟩) hB _,hK2⟩
theorem zLq (B b:Nat) (l:List UInt8) (lf:Value) (w:World) (h:IsWr B b (Lib.byteCells l) lf w) (h0:l ≠ []) :
  Calls prog 38 #[.pointer (some ⟨b,0,none⟩)] w λe w'=>e=.returned (.string ⟨l.toArray⟩)/\Below B w w':=by
 obtain ⟨p,hAt⟩:∃ p,WrAt B b p (Lib.byteCells l) lf w:=by
  rcases h with h | h
  ·exact ⟨_,h⟩
  ·exact ⟨_,h⟩
 obtain ⟨hB,v,hbk,hown,hne⟩:=hAt;have hl0:l.length ≠ 0:=by simpa using h0
 rw [Lib.byteCells_length] at hown;obtain ⟨g,cap,cur,rfl,hbg,hg,hnc,hcm,hcs,htake⟩:∃ g cap cur,v=.slice (some ⟨g,0,none⟩) l.length cap/\B<=g/\w.heap[g]? = some (.cells cur 5 (0,0))/\l.length<=cap/\cap<=maxLen/\cur.size=cap * 1/\cur.toList.take (l.length * 1)=Lib.byteCells l:=by
  rcases hown.2 with ⟨_,hz⟩ | ⟨g,cap,cur,hv,r⟩
  ·exact absurd hz hl0
  ·exact ⟨g,cap,cur,hv,r⟩
 have c1:w.drew.cell? ⟨b,1,none⟩=some (.slice (some ⟨g,0,none⟩) l.length cap):=by
  have:w.drew.heap[b]? = some (.cells #[p,.slice (some ⟨g,0,none⟩) l.length cap,lf] 86 (0,0)):=hbk;rw [Lib.cell_of_heap this];rfl
 have hSD:(Builtin.unsafeSliceData_ #[82] 117 #[.slice (some ⟨g,0,none⟩) l.length cap]).run prog w.drew=.ok (.pointer (some ⟨g,0,none⟩)) w.drew :=
  Lib.run_unsafeSliceData_row _ _ _ _ _ _ (by omega)
 have hUS:(Builtin.unsafeString_ #[117,3] 9 #[.pointer (some ⟨g,0,none⟩),.int .i64 l.length]).run prog w.drew=.ok (.string ⟨l.toArray⟩) (w.drew.freeze ⟨g,0,none⟩ l.length):=by
  refine Lib.run_unsafeString_row w.drew 117 3 9 5 underlying117 (by kernel_rfl) g cur.size (by have hg':w.drew.heap[g]? = some (.cells cur 5 (0,0)):=hg;simp [World.shape?,hg']) l h0 (by omega) (by unfold maxLen at hcm;omega) ?_;intro j x hx;have:=hown.cells (g:=g) rfl j (.int .u8 x.toNat) (by simp [Lib.byteCells,hx]);exact this
 have hBl:Below B w (w.drew.freeze ⟨g,0,none⟩ l.length):=Lib.below_freeze (Below.drew (Below.refl B w)) (p:=⟨g,0,none⟩) hbg _;go_enter func38,ntmps38;have mixed:prog.follows Departure.mixedOrders=true:=by kernel_rfl
 go_wp2;go_region_o
 all_goals (go_wp2;go_ret;exact ⟨rfl,hBl⟩)
theorem zKD:∀ i,(fNames.getD i []).length<=8
 | 0=>by decide
 | 1=>by decide
 | 2=>by decide
 | 3=>by decide
 | 4=>by decide
 | 5=>by decide
 | 6=>by decide
 | 7=>by decide
 | 8=>by decide
 | i+9=>by
  have:fNames.getD (i+9) []=[]:=by
   unfold List.getD;rw [List.getElem?_eq_none (by show 9<=i+9;omega)];rfl
  rw [this];simp
theorem zMF (N:Int):(Wnum.sgnT N).length<=1:=by unfold Wnum.sgnT;split <;> simp
theorem zOU {N:Int} {D:Nat} (h:N.natAbs<=9223372036854775807) (hD:D<=9223372036854775807):(Wnum.txt N D).length<=50:=by
 have h1:=zMF N;unfold Wnum.txt;rw [List.length_append];split
 ·have:=Wpl.dd_len N.natAbs h;have:=Wpl.dd_len D hD;simp only [List.length_append,List.length_cons];omega
 have hq:N.natAbs / D<=9223372036854775807:=Nat.le_trans (Nat.div_le_self _ _) h;have:=Wpl.dd_len (N.natAbs / D) hq;split
 ·omega
 ·have:=Wnum.decs_length D 6 (N.natAbs % D);simp only [List.length_append,List.length_cons];omega
theorem zHk {v:Wt.Vl} (h:Wt.vlOk v=true):(zGG v).length<=600:=by
 unfold zGG;split
 ·obtain ⟨n1,n2⟩:=Wnum.cN_bd v.n v.d;obtain ⟨n3,n4⟩:=Wnum.cD_bd v.n v.d;have:=zOU (N:=Wnum.cN v.n v.d) (D:=(Wnum.cD v.n v.d).toNat) (by omega) (by omega);omega
 split
 ·rename_i h1 h2
  unfold Wt.vlOk at h;rw [if_neg (by omega),if_neg h1] at h;unfold Wv.right at h;rw [if_neg (by omega),if_neg h1,if_pos h2] at h;simp only [Bool.and_eq_true,decide_eq_true_eq] at h;have hs:=h.1.1.1.1.1;have hd:=Wlx.dbl_length v.t.data.toList;have e:v.t.data.toList.length=v.t.size:=by rw [Array.length_toList];rfl
  simp only [List.length_cons,List.length_append,List.length_nil];omega
 split
 ·split <;> decide
 ·have:=zKD v.f.toNat;omega
theorem zCh (a:Wt.Rf) (h0:0<=a.r) (h1:a.r<65536):(cw a).length<=40:=by
 unfold cw;have:=zHZ a.fc;have:=zHZ a.fr;have:=Wpl.colS_len a.c;have:=Wpl.dd_len (a.r+1).toNat (by omega);simp only [List.length_append];omega
theorem zAY (h:Wt.rfOk a=true):(0<=a.r/\a.r<65536)/\(a.s=⟨#[]⟩ \/ Wt.shNm a.s=true):=by
 unfold Wt.rfOk Wt.inR at h;simp only [Bool.and_eq_true,decide_eq_true_eq,Bool.or_eq_true] at h;exact ⟨⟨h.1.1.1,h.1.1.2⟩,h.2⟩
theorem zBl {p:UInt8->Bool} {l:List UInt8} (h:Wt.isNm p l=true):1<=l.length/\l.length<=16:=by
 unfold Wt.isNm at h;simp only [Bool.and_eq_true,decide_eq_true_eq] at h;exact ⟨h.1.1.1,h.1.1.2⟩
theorem zCG (h:Wt.rfOk a=true):(zCM a).length<=60:=by
 obtain ⟨⟨h0,h1⟩,h2⟩:=zAY h;have:=zCh a h0 h1;unfold zCM;split
 ·omega
 ·rename_i hn
  have:=(zBl (h2.resolve_left hn)).2;simp only [List.length_append,List.length_cons];omega
def zRf (f:Nat):Prop:=∀ (l:List Wt.Nd) (s d:Nat),Wt.one f l=some (s,d)->∀ least,(pr f least l).2=l.drop s/\(pr f least l).1.length<=1000 * s
theorem zPr (ih:zRf f):∀ (k:Nat) (first:Bool) (l:List Wt.Nd) (s d:Nat),Wt.many (Wt.one f) k l=some (s,d)->(prA (pr f) k first l).2=l.drop s/\(prA (pr f) k first l).1.length<=1000 * s+k:=by
 intro k;induction k with
 | zero=>intro first l s d h;simp only [Wt.many,Option.some.injEq,Prod.mk.injEq] at h;obtain ⟨rfl,rfl⟩:=h;exact ⟨rfl,Nat.zero_le _⟩
 | succ k ihk =>
  intro first l s d h
  simp only [Wt.many] at h;cases h1:Wt.one f l with
  | none=>rw [h1] at h;cases h
  | some q =>
   obtain ⟨a,b⟩:=q;rw [h1] at h;simp only at h;cases h2:Wt.many (Wt.one f) k (l.drop a) with
   | none=>rw [h2] at h;cases h
   | some q2 =>
    obtain ⟨a2,b2⟩:=q2;rw [h2] at h;simp only [Option.some.injEq,Prod.mk.injEq] at h;obtain ⟨rfl,rfl⟩:=h;obtain ⟨i1,i2⟩:=ih l a b h1 0;obtain ⟨j1,j2⟩:=ihk false _ a2 b2 h2;simp only [prA];rw [i1];refine ⟨by rw [j1,List.drop_drop],?_⟩;have hf:(if first=true then ([]:List UInt8) else [44]).length<=1:=by split <;> simp
    simp only [List.length_append];omega
theorem zGV (x:Wt.Nd):(mrk x).length<=2:=by
 unfold mrk;cases h:Wt.opOf x.op with
 | none=>simp
 | some o =>
  have:=List.mem_of_find?_eq_some h;simp only [Wt.opsT,List.mem_cons,List.not_mem_nil,or_false] at this;rcases this with rfl | rfl | rfl | rfl | rfl | rfl | rfl | rfl | rfl | rfl | rfl | rfl | rfl | rfl | rfl <;> decide
theorem zHj {o:Int × List UInt8 × Int} (h:Wt.opOf x.op=some o):tgh x=o.2.2/\0<=o.2.2/\o.2.2<=6:=by
 refine ⟨by unfold tgh;rw [h],?_⟩;have:=List.mem_of_find?_eq_some h;simp only [Wt.opsT,List.mem_cons,List.not_mem_nil,or_false] at this;rcases this with rfl | rfl | rfl | rfl | rfl | rfl | rfl | rfl | rfl | rfl | rfl | rfl | rfl | rfl | rfl <;> decide
def Knd (x:Wt.Nd):Prop :=
 (x.k=1/\Wt.vlOk x.v=true/\x=⟨1,x.v,0,⟨#[]⟩,0,Wt.r0,Wt.r0⟩) \/ (x.k=2/\Wt.rfOk x.a=true/\x=⟨2,Wt.v0,0,⟨#[]⟩,0,x.a,Wt.r0⟩) \/
 (x.k=3/\Wt.rfOk x.a=true/\Wt.rfOk x.b=true/\x.b.s.toList.isEmpty=true/\x=⟨3,Wt.v0,0,⟨#[]⟩,0,x.a,x.b⟩) \/
 (x.k=4/\opK x.op=4/\x=⟨4,Wt.v0,x.op,⟨#[]⟩,0,Wt.r0,Wt.r0⟩) \/ (x.k=5/\opK x.op=5/\x=⟨5,Wt.v0,x.op,⟨#[]⟩,0,Wt.r0,Wt.r0⟩) \/
 (x.k=6/\Wt.fnNm x.nm=true/\0<=x.ar/\x.ar<=30/\x=⟨6,Wt.v0,0,x.nm,x.ar,Wt.r0,Wt.r0⟩)
theorem zBy (h:Wt.right x=true):Knd x:=by
 unfold Wt.right at h;unfold Knd;split at h
 ·rename_i e;rw [Bool.and_eq_true,zAd] at h;exact Or.inl ⟨e,h.1,h.2⟩
 split at h
 ·rename_i e;rw [Bool.and_eq_true,zAd] at h;exact Or.inr (Or.inl ⟨e,h.1,h.2⟩)
 split at h
 ·rename_i e;simp only [Bool.and_eq_true,zAd] at h;exact Or.inr (Or.inr (Or.inl ⟨e,h.1.1.1,h.1.1.2,h.1.2,h.2⟩))
 split at h
 ·rename_i e;simp only [Bool.and_eq_true,zAd,beq_iff_eq] at h;exact Or.inr (Or.inr (Or.inr (Or.inl ⟨e,h.1,h.2⟩)))
 split at h
 ·rename_i e;simp only [Bool.and_eq_true,zAd,beq_iff_eq] at h;exact Or.inr (Or.inr (Or.inr (Or.inr (Or.inl ⟨e,h.1,h.2⟩))))
 split at h
 ·rename_i e;simp only [Bool.and_eq_true,zAd,decide_eq_true_eq] at h;exact Or.inr (Or.inr (Or.inr (Or.inr (Or.inr ⟨e,h.1.1.1,h.1.1.2,h.1.2,h.2⟩))))
 ·cases h
theorem zFq:Wt.opOf 0=none:=by decide
theorem zCf (h:x.op=0):tgh x=7:=by unfold tgh;rw [h,zFq]
theorem zFB (h:Knd x):(tgh x=7/\x.op=0/\(x.k=1 \/ x.k=2 \/ x.k=3 \/ x.k=6)) \/ ((tgh x=5 \/ tgh x=6)/\Wt.parts x=1/\∃ o,Wt.opOf x.op=some o) \/ ((0<=tgh x/\tgh x<5)/\Wt.parts x=2/\∃ o,Wt.opOf x.op=some o):=by
 rcases h with ⟨h,-,e⟩ | ⟨h,-,e⟩ | ⟨h,-,-,-,e⟩ | ⟨h,h2,-⟩ | ⟨h,h2,-⟩ | ⟨h,-,-,-,e⟩
 ·have:=congrArg Wt.Nd.op e;exact Or.inl ⟨zCf this,this,Or.inl h⟩
 ·have:=congrArg Wt.Nd.op e;exact Or.inl ⟨zCf this,this,Or.inr (Or.inl h)⟩
 ·have:=congrArg Wt.Nd.op e;exact Or.inl ⟨zCf this,this,Or.inr (Or.inr (Or.inl h))⟩
 ·unfold opK at h2;cases ho:Wt.opOf x.op with
  | none=>rw [ho] at h2;simp at h2
  | some o =>
   obtain ⟨oo,om,ot⟩:=o;rw [ho] at h2;simp only at h2;obtain ⟨t1,t2,t3⟩:=zHj ho;simp only at t1 t2 t3;refine Or.inr (Or.inl ⟨?_,by unfold Wt.parts;rw [if_pos h],_,rfl⟩);split at h2
   ·omega
   ·omega
 ·unfold opK at h2;cases ho:Wt.opOf x.op with
  | none=>rw [ho] at h2;simp at h2
  | some o =>
   obtain ⟨oo,om,ot⟩:=o;rw [ho] at h2;simp only at h2;obtain ⟨t1,t2,t3⟩:=zHj ho;simp only at t1 t2 t3;refine Or.inr (Or.inr ⟨?_,by unfold Wt.parts;rw [if_neg (by omega),if_pos h],_,rfl⟩);split at h2
   ·omega
   ·omega
 ·have:=congrArg Wt.Nd.op e;exact Or.inl ⟨zCf this,this,Or.inr (Or.inr (Or.inr h))⟩
theorem zBW (h:Knd x) (hk:x.k=1 \/ x.k=2 \/ x.k=3):Wt.parts x=0:=by
 unfold Wt.parts;rw [if_neg (by omega),if_neg (by omega)];rcases h with ⟨h,-,e⟩ | ⟨h,-,e⟩ | ⟨h,-,-,-,e⟩ | ⟨h,h2,-⟩ | ⟨h,h2,-⟩ | ⟨h,-,-,-,e⟩
 ·exact congrArg Wt.Nd.ar e
 ·exact congrArg Wt.Nd.ar e
 ·exact congrArg Wt.Nd.ar e
 all_goals omega
theorem zCx (h:x.k=6):Wt.parts x=x.ar:=by
 unfold Wt.parts;rw [if_neg (by omega),if_neg (by omega)]
theorem zE7 (h:Wt.many (Wt.one f) 1 l=some (s,d)):Wt.one f l=some (s,d):=by
 simp only [Wt.many] at h;cases h1:Wt.one f l with
 | none=>rw [h1] at h;cases h
 | some q=>obtain ⟨a,b⟩:=q;rw [h1] at h;simpa using h
theorem zE3 (h:Wt.many (Wt.one f) 2 l=some (s,d)):∃ a b a2 b2,Wt.one f l=some (a,b)/\Wt.one f (l.drop a)=some (a2,b2)/\s=a+a2/\d=max b b2:=by
 simp only [Wt.many] at h;cases h1:Wt.one f l with
 | none=>rw [h1] at h;cases h
 | some q =>
  obtain ⟨a,b⟩:=q;rw [h1] at h;simp only at h;cases h2:Wt.one f (l.drop a) with
  | none=>rw [h2] at h;cases h
  | some q2 =>
   obtain ⟨a2,b2⟩:=q2;rw [h2] at h;simp only [Option.some.injEq,Prod.mk.injEq,Nat.add_zero,Nat.max_zero] at h;exact ⟨a,b,a2,b2,rfl,h2,h.1.symm,h.2.symm⟩
theorem zEj {r:List Wt.Nd} (h:Wt.one (f+1) (x::r)=some (s,d)):Wt.right x=true/\∃ a b,Wt.many (Wt.one f) (Wt.parts x).toNat r=some (a,b)/\s=a+1/\d=b+1:=by
 unfold Wt.one at h;split at h
 ·rename_i hx
  cases h1:Wt.many (Wt.one f) (Wt.parts x).toNat r with
  | none=>rw [h1] at h;cases h
  | some q =>
   obtain ⟨a,b⟩:=q;rw [h1] at h;simp only [Option.some.injEq,Prod.mk.injEq] at h;exact ⟨hx,a,b,rfl,by omega,by omega⟩
 ·cases h
theorem zQ7 (ih:zRf f) {x:Wt.Nd} (hx:Knd x) (hk:x.k=1 \/ x.k=2 \/ x.k=3 \/ x.k=6) {r:List Wt.Nd} {a b:Nat} (h:Wt.many (Wt.one f) (Wt.parts x).toNat r=some (a,b)) :
  (prS (pr f) x r).2=r.drop a/\(prS (pr f) x r).1.length<=1000 * a+900:=by
 unfold prS;by_cases h1:x.k=1
 ·rw [if_pos h1];rw [zBW hx (Or.inl h1)] at h;simp only [Int.toNat_zero,Wt.many,Option.some.injEq,Prod.mk.injEq] at h;have:Wt.vlOk x.v=true:=by
   rcases hx with ⟨_,h,e⟩ | ⟨h,-,e⟩ | ⟨h,-,-,-,e⟩ | ⟨h,h2,-⟩ | ⟨h,h2,-⟩ | ⟨h,-,-,-,e⟩
   ·exact h
   all_goals omega
  have:=zHk this;exact ⟨by rw [<-h.1];rfl,by simp only;omega⟩
 rw [if_neg h1];by_cases h2:x.k=2
 ·rw [if_pos h2];rw [zBW hx (Or.inr (Or.inl h2))] at h;simp only [Int.toNat_zero,Wt.many,Option.some.injEq,Prod.mk.injEq] at h;have:Wt.rfOk x.a=true:=by
   rcases hx with ⟨h,-,e⟩ | ⟨_,h,e⟩ | ⟨h,-,-,-,e⟩ | ⟨h,h2,-⟩ | ⟨h,h2,-⟩ | ⟨h,-,-,-,e⟩
   ·omega
   ·exact h
   all_goals omega
  have:=zCG this;exact ⟨by rw [<-h.1];rfl,by simp only;omega⟩
 rw [if_neg h2];by_cases h3:x.k=3
 ·rw [if_pos h3];rw [zBW hx (Or.inr (Or.inr h3))] at h;simp only [Int.toNat_zero,Wt.many,Option.some.injEq,Prod.mk.injEq] at h;have:Wt.rfOk x.a=true/\Wt.rfOk x.b=true:=by
   rcases hx with ⟨h,-,e⟩ | ⟨h,-,e⟩ | ⟨_,h,h',-,e⟩ | ⟨h,h2,-⟩ | ⟨h,h2,-⟩ | ⟨h,-,-,-,e⟩
   ·omega
   ·omega
   ·exact ⟨h,h'⟩
   all_goals omega
  have l1:=zCG this.1;have l2:=zCG this.2;exact ⟨by rw [<-h.1];rfl,by simp only [List.length_append,List.length_cons];omega⟩
 rw [if_neg h3];have h6:x.k=6:=by omega
 rw [zCx h6] at h;have:Wt.fnNm x.nm=true/\0<=x.ar/\x.ar<=30:=by
  rcases hx with ⟨h,-,e⟩ | ⟨h,-,e⟩ | ⟨h,-,-,-,e⟩ | ⟨h,h2,-⟩ | ⟨h,h2,-⟩ | ⟨_,h,h',h'',e⟩
  ·omega
  ·omega
  ·omega
  ·omega
  ·omega
  ·exact ⟨h,h',h''⟩
 have l1:=(zBl this.1).2;obtain ⟨j1,j2⟩:=zPr ih _ true _ _ _ h;exact ⟨j1,by simp only [List.length_append,List.length_cons,List.length_nil];omega⟩
theorem zNE (ih:zRf f) {x:Wt.Nd} (hx:Knd x) {r:List Wt.Nd} {a b:Nat} (h:Wt.many (Wt.one f) (Wt.parts x).toNat r=some (a,b)) :
  (prN (pr f) x r).2=r.drop a/\(prN (pr f) x r).1.length<=1000 * a+900:=by
 have hm:=zGV x;unfold prN;rcases zFB hx with ⟨h7,-,hk⟩ | ⟨h56,hp,-⟩ | ⟨h04,hp,-⟩
 ·rw [if_pos h7];exact zQ7 ih hx hk h
 ·rw [if_neg (by omega)];rw [hp] at h;have h':=zE7 (show Wt.many (Wt.one f) 1 r=some (a,b) from h);rcases h56 with h5 | h6
  ·rw [if_pos h5];obtain ⟨i1,i2⟩:=ih _ _ _ h' 5;exact ⟨i1,by simp only [List.length_append];omega⟩
  ·rw [if_neg (by omega),if_pos h6];obtain ⟨i1,i2⟩:=ih _ _ _ h' 6;exact ⟨i1,by simp only [List.length_append];omega⟩
 ·rw [if_neg (by omega),if_neg (by omega),if_neg (by omega)];rw [hp] at h;obtain ⟨a1,b1,a2,b2,e1,e2,e3,e4⟩:=zE3 (show Wt.many (Wt.one f) 2 r=some (a,b) from h);obtain ⟨i1,i2⟩:=ih _ _ _ e1 (tgh x);rw [i1];obtain ⟨j1,j2⟩:=ih _ _ _ e2 (tgh x+1);refine ⟨by rw [j1,List.drop_drop,e3],by simp only [List.length_append];omega⟩
theorem zDx:∀ (f:Nat),zRf f
 | 0,l,s,d,h=>by simp [Wt.one] at h
 | f+1,[],s,d,h=>by simp [Wt.one] at h
 | f+1,x::r,s,d,h=>λleast=>by
  obtain ⟨hx,a,b,hm,rfl,rfl⟩:=zEj h;obtain ⟨i1,i2⟩:=zNE (zDx f) (zBy hx) hm;simp only [pr];split
  ·exact ⟨by rw [i1];rfl,by omega⟩
  ·exact ⟨by rw [i1];rfl,by simp only [List.length_append,List.length_cons,List.length_nil];omega⟩
end Go.Proofs.YtdghjlmnlodnlaaGreatDoor
