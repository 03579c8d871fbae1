/- KAllP, KPAll, KTknP, KTknK, KLawTkn, KBArg, KLaid, KLaidO. -/
import Derived.Test.YtpjadajhinghbaaGreatDoorQ41
import Derived.Laws.BitsLemmas
import Derived.Deep.Slices
import Derived.Lib.SmallJoins
import Derived.SizedLaws
import Derived.Carry
import Derived.ProofKit
import Derived.Lib.LaidTab
import Derived.Deep.Strs
import Derived.Stop.LaidErr
set_option maxHeartbeats 8000000
set_option maxRecDepth 100000
namespace Go.Proofs.YtpjadajhinghbaaGreatDoor
open Tryz
open Go.RowKit
set_option linter.unusedVariables false
variable {w W:World} {ops:Array Oper} {rest:List Oper} {op o:Oper} {k n B base:Nat} {v:Value} {P:Program} {held:Bool}
structure Sg where
 id:Int
 c:Int
 nm:ByteArray
 l:Int
 m:Int
 p:ByteArray
abbrev Sg.cs (s:Sg):List Value:=sg6 s.id s.c s.nm s.l s.m s.p
def zq0:List Sg->List Value
 | []=>[]
 | x::r=>x.cs++zq0 r
theorem zq8:∀ A:List Sg,(zq0 A).length=A.length * 6
 | []=>rfl
 | x::r=>by simp [zq0,zq8 r];omega
theorem zq12:∀ (A C:List Sg),zq0 (A++C)=zq0 A++zq0 C
 | [],C=>rfl
 | x::r,C=>by simp [zq0,zq12 r C]
theorem zq3:∀ (A:List Sg),∀ v ∈ zq0 A,v.oneCell'=true
 | [],v,h=>by cases h
 | x::r,v,h=>by
  simp only [zq0,Sg.cs,sg6,List.mem_append,List.mem_cons,List.not_mem_nil,or_false] at h;rcases h with (rfl | rfl | rfl | rfl | rfl | rfl) | h
  ·rfl
  ·rfl
  ·rfl
  ·rfl
  ·rfl
  ·rfl
  ·exact zq3 r v h
def OwnS (w:World) (B:Nat) (v:Value) (A:List Sg):Prop:=w.ownsRow B 66 6 v A.length (zq0 A)
theorem OwnS.nil (w:World) (B:Nat):OwnS w B (.slice none 0 0) []:=⟨rfl,Or.inl ⟨rfl,rfl⟩⟩
theorem zq36:(prog.info? 66).map (λi=>(i.zero,i.size,i.bytes))=some (some (.agg #[.int .i64 0,.int .i64 0,.string ⟨#[]⟩,.int .i64 0,.int .i64 0,.string ⟨#[]⟩]),6,64):=by kernel_rfl
theorem zq15 {ops:Array Oper} {rest:List Oper} {a:Act} {Q:Exit->Act->World->Prop} (hgd:o.guard=none) (s x:Operand) (ho:o.op=.call {callee:=.builtin .append,args:=#[s,x],argTypes:=#[63,63]})
  (w:World) (B:Nat) (hB:B<=w.heap.size) (v:Value) (A:List Sg) (hs:a.eval s=v) (hown:OwnS w B v A) (g:Nat) (L:List Sg) (hx:a.eval x=.slice (some ⟨g,0,none⟩) L.length L.length) (hat:AtL w g (zq0 L)) (hl:A.length+L.length<=1000)
  (h:∀ v' w',OwnS w' B v' (A++L)->w.grownBy w' v.ownBlock->wpList prog ops Q rest (a.put o.dst v') w'):wpList prog ops Q (o::rest) a w:=by
 obtain ⟨i0,hi0,hz0,hz1,hz2⟩:=info_parts zq36;refine wpList_plain hgd λK hK=>?_
 refine wp_append_own _ s x 63 ho B 66 i0 _ 6 64 underlying63 hi0 hz0 hz1 hz2 rfl (by decide) v A.length (zq0 A) hs hown ⟨g,0,none⟩ L.length L.length (zq0 L) hx (zq8 L) (λj u hj=>?_) (zq3 L) (by unfold maxLen;omega) (by omega) hB ?_
 ·have:=hat.2.1 j u hj;rw [show (⟨g,0,none⟩:Addr).add j=⟨g,j,none⟩ from by
   simp [Addr.add];try (intro h0;omega)]
  exact this
 ·intro v' w' own hg _;refine hK _ _ (h v' w' ?_ hg);unfold OwnS;rw [List.length_append,zq12];exact own
theorem OwnS.blk {A:List Sg} (h:OwnS w B v A) {g:Nat} (e:v.ownBlock=some g):B<=g/\g<w.heap.size:=zAL h e
theorem OwnS.below {w':World} {A:List Sg} (h:OwnS w B v A) (hb:Below w.heap.size w w'):OwnS w' B v A:=zAX (Fr.of_below [] hb) h (by simp)
open Go.RowKit Wf
def sgI (k:Nat):Sg:=⟨(k:Int),(zAO (k:Int)).c,⟨(zEa (k:Int)).toArray⟩,(zAO (k:Int)).l,(zAO (k:Int)).m,(zAO (k:Int)).p⟩
def zq2 (i:Nat):List Sg:=((List.range i).filter (λk:Nat=>zAs ((k:Nat):Int))).map sgI
theorem zq22 (i:Nat):zq2 (i+1)=if zAs (i:Int)=true then zq2 i++[sgI i] else zq2 i:=by
 unfold zq2;rw [List.range_succ,List.filter_append,List.map_append];by_cases h:zAs (i:Int)=true
 ·simp [h]
 ·simp [h]
theorem zq16:(zq2 63).length=49:=by kernel_rfl
theorem zq37 (i:Nat):(zq2 i).length<=i:=by
 unfold zq2;rw [List.length_map];have:=List.length_filter_le (λk=>zAs ((k:Nat):Int)) (List.range i);rw [List.length_range] at this;exact this
theorem zq33 {s:Sg} (h:s ∈ zq2 63):∃ k:Nat,k<63/\zAs (k:Int)=true/\s=sgI k:=by
 unfold zq2 at h;obtain ⟨k,h1,rfl⟩:=List.mem_map.1 h;obtain ⟨h2,h3⟩:=List.mem_filter.1 h1;exact ⟨k,List.mem_range.1 h2,h3,rfl⟩
theorem bsS1 (s:Sg) (w:World):(Instr.buildSlice 63 1 #[(0,.agg s.cs.toArray)]).run prog w=.ok (.slice (some ⟨w.heap.size,0,none⟩) 1 1) (w.alloc (.cells s.cs.toArray 66)):=by kernel_rfl
theorem zq14 {a:Act} {Q:Exit->Act->World->Prop} (hgd:op.guard=none) (y:Operand) (ho:op.op=.buildSlice 63 1 #[(0,y)]) (s:Sg) (hy:a.eval y=.agg s.cs.toArray)
  (h:wpList prog ops Q rest (a.put op.dst (.slice (some ⟨w.heap.size,0,none⟩) 1 1)) (w.alloc (.cells s.cs.toArray 66))):wpList prog ops Q (op::rest) a w:=by
 refine wpList_plain hgd λK hK=>?_
 unfold Oper.wp execOp;simp only [ho,List.map_toArray,List.map_cons,List.map_nil,hy,Sem.run_bind,Sem.run_pure,Result.andThen_ok,bsS1];exact hK _ _ h
abbrev zeros6:Array Value:=#[.int .i64 0,.int .i64 0,.string ⟨#[]⟩,.int .i64 0,.int .i64 0,.string ⟨#[]⟩]
theorem zq41 (s:Sg):s.cs.toArray.all (·.oneCell')=true:=by
 refine all_oneCell_toArray (λv hv=>?_);exact zq3 [s] v (by simp only [zq0,List.append_nil];exact hv)
theorem zq30 (w:World) (hN:NmAt w):Calls prog 21 #[] w λe w'=>(∃ r,e=.returned r/\OwnS w' w.heap.size r (zq2 63))/\Below w.heap.size w w':=by
 have HN:Hid (NmAt w):=hN;clear hN;go_enter func21,ntmps21;go_wp2_with fail
 go_loopg [1,5] 63 (λgk u1 u5 wr=>∃ (i:Nat) (va:Value),va=u1/\u5=.int .i64 (i:Int)/\gk=63 - i/\i<=63/\Hid (OwnS wr w.heap.size va (zq2 i))/\Hid (Below w.heap.size w wr))
 case atStart=>exact ⟨0,_,rfl,rfl,rfl,Nat.zero_le _,OwnS.nil _ _,Below.refl _ _⟩
 case round =>
  obtain ⟨i,va,rfl,rfl,hg,hi,HO,HB⟩:=hrel;by_cases hlt:i<63
  ·have hli:(i:Int)<63:=by omega
   have hwi:IntKind.i64.wrap ((i:Int)+1)=(i:Int)+1:=by rw [IntKind.wrap_i64];omega
   have BY:=zFb (i:Int) wr (HN.out.below HB.out);have hal:=zq22 i;obtain ⟨q,hq⟩:∃ q,zAs (i:Int)=q:=⟨_,rfl⟩
   rw [hq] at BY hal;cases q with
   | true =>
    have hsg:zCk (i:Int)=(sgI i).cs:=by unfold zCk;rw [if_pos hq];rfl
    rw [hsg] at BY;rw [if_pos rfl] at hal;have HAL:Hid (zq2 (i+1)=zq2 i++[sgI i]):=hal;have hln:(zq2 i).length+1<=1000:=by have:=zq37 i;omega
    obtain ⟨s,hs⟩:∃ s,sgI i=s:=⟨_,rfl⟩
    rw [hs] at BY HAL;clear hq hal hsg hs;go_wp2_with fail
    refine BY.mono ?_;rintro e w1 ⟨rfl,hb1⟩;have hth:World.there (w1.alloc (.cells zeros6 66)) w1.heap.size 0 s.cs.toArray.size:=(AtL.new0 w1 _ _:AtL (w1.alloc (.cells zeros6 66)) w1.heap.size zeros6.toList).there;have pS:AtL ((w1.alloc (.cells zeros6 66)).setCells w1.heap.size 0 s.cs) w1.heap.size s.cs:=(AtL.new0 w1 _ _:AtL (w1.alloc (.cells zeros6 66)) w1.heap.size zeros6.toList).setAll rfl;have hb2:Below w1.heap.size w1 ((w1.alloc (.cells zeros6 66)).setCells w1.heap.size 0 s.cs):=zAo (zAK (Below.refl _ w1) _) (Nat.le_refl _) _ 0;have HO2:Hid (OwnS ((w1.alloc (.cells zeros6 66)).setCells w1.heap.size 0 s.cs) w.heap.size va (zq2 i)):=(HO.out.below hb1).below hb2;have HB2:Hid (Below w.heap.size w ((w1.alloc (.cells zeros6 66)).setCells w1.heap.size 0 s.cs)):=zAB (zAB HB.out hb1) hb2;clear BY hb1 hb2 HO HB;go_upto_region 6 with (first | ((with_reducible refine wpList_store_mid ?_ 66 (.tmp 3) (.tmp 11) ?_ w1.heap.size 0 s.cs.toArray ?_ ?_ ?_ ?_ ?_ ?_);rfl;rfl;rfl;rfl;exact hth;kernel_rfl;exact zq41 _))
    clear hth;generalize ((w1.alloc (.cells zeros6 66)).setCells w1.heap.size 0 s.cs)=W2 at *;obtain ⟨k,hk⟩:∃ k,w1.heap.size=k:=⟨_,rfl⟩
    rw [hk] at pS;simp only [hk];clear hk;have rS:=pS.range;have hb3:=zAK (Below.refl _ W2) (.cells s.cs.toArray 66);have pA:=AtL.new0 W2 66 s.cs;have HO3:Hid (OwnS (W2.alloc (.cells s.cs.toArray 66)) w.heap.size va (zq2 i)):=HO2.out.below hb3;have HB3:Hid (Below w.heap.size w (W2.alloc (.cells s.cs.toArray 66))):=zAB HB2.out hb3;have hsz:=HB3.out.size;have pA':AtL (W2.alloc (.cells s.cs.toArray 66)) W2.heap.size (zq0 [s]):=by simp only [zq0,List.append_nil];exact pA
    have HFX:Hid (∀ (v':Value) (w':World),OwnS w' w.heap.size v' (zq2 i++[s])->(W2.alloc (.cells s.cs.toArray 66)).grownBy w' va.ownBlock->OwnS w' w.heap.size v' (zq2 (i+1))/\Below w.heap.size w w'):=λv' w' h1 h2=>by
     rw [HAL.out];exact ⟨h1,HB3.out.grown h2 HB3.out.size (λk e=>(HO3.out.blk e).1)⟩
    clear pS hb3 pA HO2 HB2;go_wp2_with (first | (refine zAA (by rfl) 66 (.tmp 3) rfl k 0 rfl s.cs _ rS underlying66 rfl (by kernel_rfl) ?_) | (refine zq14 rfl (.tmp 15) rfl s rfl ?_) | (refine zq15 rfl (.tmp 14) (.tmp 16) rfl (W2.alloc (.cells s.cs.toArray 66)) w.heap.size hsz va (zq2 i) rfl HO3.out W2.heap.size [s] rfl pA' hln ?_;intro v' w' own' hg'))
    obtain ⟨f1,f2⟩:=HFX.out v' w' own' hg';go_roundg (63 - (i+1))
    case rel=>exact ⟨i+1,v',rfl,by simp,rfl,hlt,f1,f2⟩
    case measure=>omega
   | false =>
    have hsg:zCk (i:Int)=zero6:=by unfold zCk;rw [if_neg (by rw [hq];simp)]
    rw [hsg] at BY;rw [if_neg (by simp)] at hal;have HAL:Hid (zq2 (i+1)=zq2 i):=hal;clear hq hal hsg;unfold zero6 at BY;go_wp2_with fail
    refine BY.mono ?_;rintro e w1 ⟨rfl,hb1⟩;have hb2:=zAK (Below.refl _ w1) (.cells zeros6 66);have HO2:Hid (OwnS (w1.alloc (.cells zeros6 66)) w.heap.size va (zq2 (i+1))):=by
     show OwnS _ _ _ _
     rw [HAL.out];exact (HO.out.below hb1).below hb2
    have HB2:Hid (Below w.heap.size w (w1.alloc (.cells zeros6 66))):=zAB (zAB HB.out hb1) hb2;clear BY hb1 hb2 HO HB;go_wp2_with fail
    go_roundg (63 - (i+1))
    case rel=>exact ⟨i+1,va,rfl,by simp,rfl,hlt,HO2,HB2⟩
    case measure=>omega
  ·have hli:¬ (i:Int)<63:=by omega
   have he:i=63:=by omega
   subst he;go_wp2;go_ret;exact ⟨⟨_,rfl,HO.out⟩,HB.out⟩
theorem zq45 (a:Int):∃ n:Nat,n<=31/\bits .and .i64 a 31=(n:Int):=by
 refine ⟨((BitVec.ofInt IntKind.i64.bits a) &&& (BitVec.ofInt IntKind.i64.bits 31)).toNat,?_,?_⟩
 ·rw [BitVec.toNat_and];refine Nat.le_trans Nat.and_le_right ?_;decide
 ·have h:((BitVec.ofInt IntKind.i64.bits a) &&& (BitVec.ofInt IntKind.i64.bits 31)).toNat<=31:=by
   rw [BitVec.toNat_and];refine Nat.le_trans Nat.and_le_right ?_;decide
  simp only [bits];rw [IntKind.wrap_i64];omega
def lfN (b:Bool):Wt.Nd:=if b then ⟨3,Wt.v0,0,⟨#[]⟩,0,Wt.r0,⟨⟨#[]⟩,1,1,false,false⟩⟩ else ⟨1,⟨1,1,1,⟨#[]⟩,false,0⟩,0,⟨#[]⟩,0,Wt.r0,Wt.r0⟩
def caN (k:Nat) (n:Nat):Wt.Nd:=⟨6,Wt.v0,0,⟨(zEa (k:Int)).toArray⟩,(n:Int),Wt.r0,Wt.r0⟩
def lf1 (b:Bool):Tr 1:=(⟨lfN b,[]⟩:Br (Tr 0))
def caT (k n:Nat) (b:Bool):Tr 2:=(⟨caN k n,List.replicate n (lf1 b)⟩:Br (Tr 1))
def caR (k n:Nat) (b:Bool):List Wt.Nd:=caN k n::List.replicate n (lfN b)
theorem zq24 (k n:Nat) (b:Bool):row 2 (caT k n b)=caR k n b:=by
 show caN k n::((List.replicate n (lf1 b)).map (row 1)).flatten=caN k n::List.replicate n (lfN b)
 congr 1
 induction n with
 | zero=>rfl
 | succ n ih =>
  rw [List.replicate_succ,List.map_cons,List.flatten_cons,ih,List.replicate_succ];rfl
theorem zq18 (b:Bool):Wt.right (lfN b)=true:=by cases b <;> kernel_rfl
theorem zq19 (b:Bool):Wt.parts (lfN b)=0:=by cases b <;> rfl
theorem zq28:(List.range 63).all (λk=>!zAs ((k:Nat):Int) || (Wt.fnNm ⟨(zEa ((k:Nat):Int)).toArray⟩ && (zA8 ⟨(zEa ((k:Nat):Int)).toArray⟩ == k) && (zEa ((k:Nat):Int)).length == (zEa ((k:Nat):Int)).length && decide ((zEa ((k:Nat):Int)).length<=100)))=true:=by kernel_rfl
theorem zq38 (hk:k<63) (h:zAs (k:Int)=true):Wt.fnNm ⟨(zEa (k:Int)).toArray⟩=true/\zA8 ⟨(zEa (k:Int)).toArray⟩=k/\(zEa (k:Int)).length<=100:=by
 have h1:=List.all_eq_true.1 zq28 k (List.mem_range.2 hk);rw [h] at h1;simp only [Bool.not_true,Bool.false_or,Bool.and_eq_true,beq_iff_eq,decide_eq_true_eq] at h1;exact ⟨h1.1.1.1,h1.1.1.2,h1.2⟩
theorem zq17 (hk:k<63) (h:zAs (k:Int)=true) (hn:n<=30):Wt.right (caN k n)=true:=by
 have k6:(caN k n).k=6:=rfl;unfold Wt.right;rw [if_neg (by omega),if_neg (by omega),if_neg (by omega),if_neg (by omega),if_neg (by omega),if_pos k6];have e1:Wt.fnNm (caN k n).nm=true:=(zq38 hk h).1;have e2:eqN (caN k n) ⟨6,Wt.v0,0,(caN k n).nm,(caN k n).ar,Wt.r0,Wt.r0⟩=true:=(zEr _ _).2 rfl;have e3:(caN k n).ar=(n:Int):=rfl;rw [e1,e2,e3];simp;omega
theorem zq26 (b:Bool) (hk:k<63) (h:zAs (k:Int)=true) (hn:n<=30):zCX 2 (caT k n b):=by
 refine ⟨zq17 hk h hn,?_,λt ht=>?_⟩
 ·show Wt.parts (caN k n)=((List.replicate n (lf1 b)).length:Int)
  rw [List.length_replicate];rfl
 ·have ht2:t ∈ List.replicate n (lf1 b):=ht;rw [List.eq_of_mem_replicate ht2];refine ⟨zq18 b,?_,λt ht=>by cases ht⟩;show Wt.parts (lfN b)=0
  exact zq19 b
theorem zq23 (b:Bool) (f:Nat):∀ n,∃ d,d<=1/\Wt.many (Wt.one (f+1)) n (List.replicate n (lfN b))=some (n,d)
 | 0=>⟨0,by omega,rfl⟩
 | n+1=>by
  obtain ⟨d,hd,e⟩:=zq23 b f n;refine ⟨max 1 d,by omega,?_⟩;rw [List.replicate_succ];unfold Wt.many;have e1:Wt.one (f+1) (lfN b::List.replicate n (lfN b))=some (1,1):=by
   unfold Wt.one;rw [if_pos (zq18 b),zq19];rfl
  rw [e1];simp only [List.drop_succ_cons,List.drop_zero,e];rw [Nat.add_comm 1 n]
theorem zq29 (b:Bool) (hk:k<63) (h:zAs (k:Int)=true) (hn:n<=30):Wt.check (caR k n b)=0:=by
 have hl:(caR k n b).length=n+1:=by simp [caR]
 obtain ⟨d,hd,e⟩:=zq23 b n n;unfold Wt.check;rw [hl,if_neg (by omega)];have e1:Wt.one (n+1+1) (caR k n b)=some (n+1,d+1):=by
  unfold caR Wt.one;rw [if_pos (zq17 hk h hn)];have e2:(Wt.parts (caN k n)).toNat=n:=rfl;rw [e2,e]
 rw [e1];simp only;rw [if_neg (by omega),if_neg (by omega)]
theorem zq43 (b:Bool) (hk:k<63) (h:zAs (k:Int)=true):∀ x ∈ caR k n b,Wt.FitN x:=by
 intro x hx;unfold caR at hx;rcases List.mem_cons.1 hx with rfl | hx
 ·have h1:=(zq38 hk h).2.2;unfold Wt.FitN Wt.FitV caN;refine ⟨(by decide:(-9223372036854775808<=Wt.v0.n/\Wt.v0.n<=9223372036854775807)/\(-9223372036854775808<=Wt.v0.d/\Wt.v0.d<=9223372036854775807)/\Wt.v0.t.size<=9223372036854775807),?_,(by decide:Wt.r0.s.size<=9223372036854775807),(by decide:Wt.r0.s.size<=9223372036854775807)⟩;show (zEa (k:Int)).toArray.size<=_
  simp;omega
 ·rw [List.eq_of_mem_replicate hx];unfold Wt.FitN Wt.FitV;cases b <;> decide
def okc (c:UInt8) (b:Bool):Bool:=c == 120 || ((c == 97) == b)
def zq1 (p:List UInt8) (b:Bool) (n:Nat):Bool:=(List.range n).all λi=>okc (p.getD (min i (p.length - 1)) 0) b
theorem zq21 (p:List UInt8) (b:Bool) (n:Nat):zq1 p b (n+1)=(zq1 p b n && okc (p.getD (min n (p.length - 1)) 0) b):=by
 unfold zq1;rw [List.range_succ,List.all_append];simp
theorem zq40:(List.range 63).all (λk=>!zAs ((k:Nat):Int) || ((zAO ((k:Nat):Int)).p.data.toList.all (λc=>c == 97 || c == 118 || c == 120) && decide (0<(zAO ((k:Nat):Int)).p.size) && decide ((zAO ((k:Nat):Int)).p.size<=10)))=true:=by kernel_rfl
theorem zq35 (hk:k<63) (h:zAs (k:Int)=true):(∀ c ∈ (zAO (k:Int)).p.data.toList,c=97 \/ c=118 \/ c=120)/\0<(zAO (k:Int)).p.size/\(zAO (k:Int)).p.size<=10:=by
 have h1:=List.all_eq_true.1 zq40 k (List.mem_range.2 hk);rw [h] at h1;simp only [Bool.not_true,Bool.false_or,Bool.and_eq_true,decide_eq_true_eq,List.all_eq_true,Bool.or_eq_true,beq_iff_eq] at h1;exact ⟨λc hc=>by have:=h1.1.1 c hc;rcases this with (q | q) | q <;> simp [q],h1.1.2,h1.2⟩
theorem zq42 (b:Bool):isA (lfN b)=b:=by cases b <;> rfl
theorem zq20 {p:List UInt8} (hp:∀ c ∈ p,c=97 \/ c=118 \/ c=120) (h0:0<p.length) (b:Bool):∀ n i,zAd p (List.replicate n (lfN b)) i=(List.range n).all (λj=>okc (p.getD (min (i+j) (p.length - 1)) 0) b)
 | 0,i=>rfl
 | n+1,i=>by
  rw [List.replicate_succ];unfold zAd;rw [zq20 hp h0 b n (i+1),zq42,List.range_succ_eq_map,List.all_cons,List.all_map];have hm:p.getD (min i (p.length - 1)) 0 ∈ p:=by
   rw [List.getD_eq_getElem?_getD,List.getElem?_eq_getElem (by omega)];exact List.getElem_mem _
  have e1:((λj=>okc (p.getD (min (i+j) (p.length - 1)) 0) b) ∘ Nat.succ)=(λj=>okc (p.getD (min (i+1+j) (p.length - 1)) 0) b):=by
   funext j
   show okc (p.getD (min (i+(j+1)) (p.length - 1)) 0) b=_
   rw [show i+(j+1)=i+1+j by omega]
  rw [e1,Nat.add_zero];generalize p.getD (min i (p.length - 1)) 0=c at *;rcases hp c hm with rfl | rfl | rfl <;> cases b <;> simp [okc]
theorem zq25 (id:Int) (b:Bool) (n:Nat):zAz id (List.replicate n (lfN b))=true:=by
 unfold zAz;split
 ·have e:(zAm (List.replicate n (lfN b))).headD ⟨0,v0I,0,⟨#[]⟩,0,Wt.r0,Wt.r0⟩=(zAm (List.replicate n (lfN b))).getLastD ⟨0,v0I,0,⟨#[]⟩,0,Wt.r0,Wt.r0⟩:=by
   unfold zAm;rw [List.filter_replicate];split
   ·cases n with
    | zero=>rfl
    | succ n =>
     rw [List.getLastD_eq_getLast?,List.getLast?_replicate];simp [List.replicate_succ]
   ·rfl
  simp only [e,beq_self_eq_true,Bool.and_self]
 ·rfl
def nmS:List ByteArray:=[⟨#[83]⟩]
theorem ca_E (b:Bool) (hk:k<63) (h:zAs (k:Int)=true):flE 0 0 0 nmS 2 (caT k n b)=if (n:Int)<(zAO (k:Int)).l \/ (zAO (k:Int)).m<(n:Int) then 81 else if zq1 (zAO (k:Int)).p.data.toList b n=false then 82 else 0:=by
 obtain ⟨l1,l2,l3⟩:=zq35 hk h;have hps:(zAO (k:Int)).p.data.toList.length=(zAO (k:Int)).p.size:=Array.length_toList;have hlf:∀ t ∈ List.replicate n (lf1 b),zBj 0 (nmS.take 16) 1 t=0:=λt ht=>by
  rw [List.eq_of_mem_replicate ht];cases b <;> kernel_rfl
 have hz:∀ (l:List Int),(∀ x ∈ l,x=0)->zQC l=0:=λl=>by
  induction l with
  | nil=>intro _;rfl
  | cons x r ih =>
   intro hx;unfold zQC;rw [if_pos (hx x (List.mem_cons_self ..))];exact ih (λy hy=>hx y (List.mem_cons_of_mem _ hy))
 have hmap:(List.replicate n (lf1 b)).map (hd 1)=List.replicate n (lfN b):=by
  rw [List.map_replicate];rfl
 have hT:zBj 0 (nmS.take 16) 2 (caT k n b)=zGs (caN k n) (List.replicate n (lfN b)):=by
  show zQC (zCR 0 (nmS.take 16) (caN k n) ((List.replicate n (lf1 b)).map (hd 1))::(List.replicate n (lf1 b)).map (zBj 0 (nmS.take 16) 1))=_
  rw [hmap];have e1:zCR 0 (nmS.take 16) (caN k n) (List.replicate n (lfN b))=zGs (caN k n) (List.replicate n (lfN b)):=by
   unfold zCR;rw [if_neg (by simp [caN]),if_neg (by simp [caN]),if_pos (show (caN k n).k=6 from rfl)]
  rw [e1];unfold zQC;split
  ·rename_i q
   rw [q];exact hz _ (λx hx=>by
    obtain ⟨t,ht,rfl⟩:=List.mem_map.1 hx;exact hlf t ht)
  ·rfl
 have hC:zGs (caN k n) (List.replicate n (lfN b))=if (n:Int)<(zAO (k:Int)).l \/ (zAO (k:Int)).m<(n:Int) then 81 else if zq1 (zAO (k:Int)).p.data.toList b n=false then 82 else 0:=by
  have e1:zA8 (caN k n).nm=k:=(zq38 hk h).2.1;have e2:zAd (zAO (k:Int)).p.data.toList (List.replicate n (lfN b)) 0=zq1 (zAO (k:Int)).p.data.toList b n:=by
   rw [zq20 l1 (by omega)];unfold zq1;simp only [Nat.zero_add]
  unfold zGs;simp only [e1,e2,zq25,h,Bool.true_eq_false,if_false];rfl
 unfold flE;rw [hT,hC];have r1:Wpl.rightC 0 0 0=true:=rfl;rw [if_neg (by simp [r1]),if_neg (by simp [nmS])];have r2:isA (hd 2 (caT k n b))=false:=rfl;rw [r2];split
 ·rfl
 ·split
  ·rfl
  ·rfl
theorem zq10:∀ (A:List Sg) (i:Nat) (h:i<A.length) (j:Nat),j<6->(zq0 A)[i * 6+j]? = (A[i]).cs[j]?
 | [],i,h,_,_=>absurd h (Nat.not_lt_zero _)
 | x::r,0,h,j,hj=>by
  have hl:x.cs.length=6:=rfl;simp only [zq0];rw [List.getElem?_append_left (by omega)];simp
 | x::r,i+1,h,j,hj=>by
  have hl:x.cs.length=6:=rfl;simp only [zq0];rw [List.getElem?_append_right (by omega),hl,show (i+1) * 6+j - 6=i * 6+j by omega,zq10 r i (by simpa using h) j hj];simp
theorem zq44 {A:List Sg} (h:OwnS w B v A) (h0:0<A.length):∃ g cap,v=.slice (some ⟨g,0,none⟩) A.length cap/\∀ i (hi:i<A.length),w.rangeAt g (i * 6) (A[i]).cs:=by
 rcases h.2 with ⟨e,h1⟩ | ⟨g,cap,cur,e,hb,hg,h1,h2,h3,h4⟩
 ·omega
 ·refine ⟨g,cap,e,λi hi j u hu=>?_⟩;have hj:j<6:=by
   have:=(List.getElem?_eq_some_iff.1 hu).1;exact this
  have hx:=zq10 A i hi j hj;rw [hu,<-h4,List.getElem?_take_of_lt (by omega)] at hx;unfold World.cell?;simp only [hg];simpa using hx
theorem zq34 (a:Int) (n:Nat) (h0:0<n) (h1:n<=1000):∃ (ra:Int) (j:Nat),a.tmod (n:Int)=ra/\IntKind.i64.wrap ra=ra/\IntKind.i64.wrap (ra+(n:Int))=ra+(n:Int)/\(ra+(n:Int)).tmod (n:Int)=(j:Int)/\IntKind.i64.wrap (j:Int)=(j:Int)/\j<n:=by
 have hn:(0:Int)<(n:Int):=by omega
 have b1:=Int.tmod_lt_of_pos a hn;have b2:-(n:Int)<a.tmod n:=by
  have h2:=Int.tmod_lt_of_pos (-a) hn;rw [Int.neg_tmod] at h2;omega
 have b3:=Int.tmod_lt_of_pos (a.tmod n+n) hn;have b4:0<=(a.tmod n+n).tmod n:=Int.tmod_nonneg _ (by omega);refine ⟨_,((a.tmod n+n).tmod n).toNat,rfl,by rw [IntKind.wrap_i64];omega,by rw [IntKind.wrap_i64];omega,by omega,by rw [IntKind.wrap_i64];omega,by omega⟩
theorem zq51 (nm:ByteArray) (n:Int) (w:World):(Instr.build 56 #[(0,.int .i64 6),(3,.string nm),(4,.int .i64 n)]).run prog w=.ok (.agg (zAM ⟨6,Wt.v0,0,nm,n,Wt.r0,Wt.r0⟩).toArray) w:=by kernel_rfl
theorem zq50 (w:World):(Instr.build 54 #[(1,.int .i64 1),(2,.int .i64 1)]).run prog w=.ok (.agg #[.string ⟨#[]⟩,.int .i64 1,.int .i64 1,.bool false,.bool false]) w:=by kernel_rfl
theorem zq46 (w:World):(Instr.build 56 #[(0,.int .i64 3),(6,.agg #[.string ⟨#[]⟩,.int .i64 1,.int .i64 1,.bool false,.bool false])]).run prog w=.ok (.agg (zAM (lfN true)).toArray) w:=by kernel_rfl
theorem zq47 (w:World):(Instr.build 41 #[(0,.int .i64 1),(1,.int .i64 1)]).run prog w=.ok (.agg #[.int .i64 1,.int .i64 1]) w:=by kernel_rfl
theorem zq48 (w:World):(Instr.build 43 #[(0,.int .i64 1),(1,.agg #[.int .i64 1,.int .i64 1])]).run prog w=.ok (.agg #[.int .i64 1,.int .i64 1,.int .i64 1,.string ⟨#[]⟩,.bool false,.int .i64 0]) w:=by kernel_rfl
theorem zq49 (w:World):(Instr.build 56 #[(0,.int .i64 1),(1,.agg #[.int .i64 1,.int .i64 1,.int .i64 1,.string ⟨#[]⟩,.bool false,.int .i64 0])]).run prog w=.ok (.agg (zAM (lfN false)).toArray) w:=by kernel_rfl
theorem Act.eval_const (a:Act) (v:Value):a.eval (.const v)=v:=rfl
theorem zq6 {a:Act} {Q:Exit->Act->World->Prop} (hgd:op.guard=none) (y z:Operand) (ho:op.op=.build 56 #[(0,.const (.int .i64 6)),(3,y),(4,z)]) (nm:ByteArray) (n:Int) (hy:a.eval y=.string nm) (hz:a.eval z=.int .i64 n)
  (h:wpList prog ops Q rest (a.put op.dst (.agg (zAM ⟨6,Wt.v0,0,nm,n,Wt.r0,Wt.r0⟩).toArray)) w):wpList prog ops Q (op::rest) a w:=by
 refine wpList_plain hgd λK hK=>?_
 unfold Oper.wp execOp;simp only [ho,List.map_toArray,List.map_cons,List.map_nil,Act.eval_const,hy,hz,Sem.run_bind,Sem.run_pure,Result.andThen_ok,zq51];exact hK _ _ h
theorem zq13 {a:Act} {Q:Exit->Act->World->Prop} (hgd:op.guard=none) (ho:op.op=.build 54 #[(1,.const (.int .i64 1)),(2,.const (.int .i64 1))])
  (h:wpList prog ops Q rest (a.put op.dst (.agg #[.string ⟨#[]⟩,.int .i64 1,.int .i64 1,.bool false,.bool false])) w):wpList prog ops Q (op::rest) a w:=by
 refine wpList_plain hgd λK hK=>?_
 unfold Oper.wp execOp;simp only [ho,List.map_toArray,List.map_cons,List.map_nil,Act.eval_const,Sem.run_bind,Sem.run_pure,Result.andThen_ok,zq50];exact hK _ _ h
theorem zq7 {a:Act} {Q:Exit->Act->World->Prop} (hgd:op.guard=none) (y:Operand) (ho:op.op=.build 56 #[(0,.const (.int .i64 3)),(6,y)]) (hy:a.eval y=.agg #[.string ⟨#[]⟩,.int .i64 1,.int .i64 1,.bool false,.bool false])
  (h:wpList prog ops Q rest (a.put op.dst (.agg (zAM (lfN true)).toArray)) w):wpList prog ops Q (op::rest) a w:=by
 refine wpList_plain hgd λK hK=>?_
 unfold Oper.wp execOp;simp only [ho,List.map_toArray,List.map_cons,List.map_nil,Act.eval_const,hy,Sem.run_bind,Sem.run_pure,Result.andThen_ok,zq46];exact hK _ _ h
theorem zq5 {a:Act} {Q:Exit->Act->World->Prop} (hgd:op.guard=none) (ho:op.op=.build 41 #[(0,.const (.int .i64 1)),(1,.const (.int .i64 1))])
  (h:wpList prog ops Q rest (a.put op.dst (.agg #[.int .i64 1,.int .i64 1])) w):wpList prog ops Q (op::rest) a w:=by
 refine wpList_plain hgd λK hK=>?_
 unfold Oper.wp execOp;simp only [ho,List.map_toArray,List.map_cons,List.map_nil,Act.eval_const,Sem.run_bind,Sem.run_pure,Result.andThen_ok,zq47];exact hK _ _ h
theorem zq9 {a:Act} {Q:Exit->Act->World->Prop} (hgd:op.guard=none) (y:Operand) (ho:op.op=.build 43 #[(0,.const (.int .i64 1)),(1,y)]) (hy:a.eval y=.agg #[.int .i64 1,.int .i64 1])
  (h:wpList prog ops Q rest (a.put op.dst (.agg #[.int .i64 1,.int .i64 1,.int .i64 1,.string ⟨#[]⟩,.bool false,.int .i64 0])) w):wpList prog ops Q (op::rest) a w:=by
 refine wpList_plain hgd λK hK=>?_
 unfold Oper.wp execOp;simp only [ho,List.map_toArray,List.map_cons,List.map_nil,Act.eval_const,hy,Sem.run_bind,Sem.run_pure,Result.andThen_ok,zq48];exact hK _ _ h
theorem zq11 {a:Act} {Q:Exit->Act->World->Prop} (hgd:op.guard=none) (y:Operand) (ho:op.op=.build 56 #[(0,.const (.int .i64 1)),(1,y)]) (hy:a.eval y=.agg #[.int .i64 1,.int .i64 1,.int .i64 1,.string ⟨#[]⟩,.bool false,.int .i64 0])
  (h:wpList prog ops Q rest (a.put op.dst (.agg (zAM (lfN false)).toArray)) w):wpList prog ops Q (op::rest) a w:=by
 refine wpList_plain hgd λK hK=>?_
 unfold Oper.wp execOp;simp only [ho,List.map_toArray,List.map_cons,List.map_nil,Act.eval_const,hy,Sem.run_bind,Sem.run_pure,Result.andThen_ok,zq49];exact hK _ _ h
theorem zq4 {ops:Array Oper} {rest:List Oper} {a:Act} {Q:Exit->Act->World->Prop} (hgd:o.guard=none) (s x:Operand) (ho:o.op=.call {callee:=.builtin .append,args:=#[s,x],argTypes:=#[22,22]})
  (B:Nat) (w:World) (hB:B<=w.heap.size) (v:Value) (A:List Wt.Nd) (hs:a.eval s=v) (hown:OwnN w B v A) (g:Nat) (y:Wt.Nd) (hx:a.eval x=.slice (some ⟨g,0,none⟩) 1 1) (hr:w.rangeAt g 0 (zAM y)) (hl:A.length<=1000)
  (h:∀ v' w',OwnN w' B v' (A++[y])->w.grownBy w' v.ownBlock->wpList prog ops Q rest (a.put o.dst v') w'):wpList prog ops Q (o::rest) a w:=by
 obtain ⟨i0,hi0,hz0,hz1,hz2⟩:=info_parts zL3;have hR:RdN w (some ⟨g,0,none⟩) [y]:=λi hi=>by
  have hi0:i=0:=by simp at hi;omega
  subst hi0;exact ⟨g,0,rfl,hr⟩
 refine wpList_plain hgd λK hK=>?_
 refine wp_append_own _ s x 22 ho B 56 i0 _ 20 176 underlying22 hi0 hz0 hz1 hz2 rfl (by decide) v A.length (zCH A) hs hown ⟨g,0,none⟩ 1 1 (zCH [y]) hx (zCS [y]) (hR.flat _ rfl) (zHA [y]) (by unfold maxLen;omega) (by omega) hB ?_;intro v' w' own hg _;refine hK _ _ (h v' w' ?_ hg);unfold OwnN;rw [List.length_append];have e:zCH (A++[y])=zCH A++zCH [y]:=by simp [zCH]
 rw [e];exact own
theorem zq32 (w:World) (y:Wt.Nd):OwnN (w.alloc (.cells (zAM y).toArray 56)) w.heap.size (.slice (some ⟨w.heap.size,0,none⟩) 1 1) [y]:=by
 have e:zCH [y]=zAM y:=by simp [zCH]
 refine ⟨by rw [e];rfl,.inr ⟨w.heap.size,1,(zAM y).toArray,rfl,Nat.le_refl _,heap_alloc_new w _,Nat.le_refl _,by unfold maxLen;omega,rfl,?_⟩⟩;rw [e];rfl
theorem zq27 (k n:Nat) (b:Bool):(caR k n b).length=n+1:=by simp [caR]
theorem zq39 (which args:Int) (b:Bool) (w:World) (hN:NmAt w) (hO:OpsAt w) :
  CR 7 #[.int .i64 which,.int .i64 args,.bool b] w (.bool true):=by
 have AB:=zKZ w hN hO;have HPA:Hid (∀ W:World,Below w.heap.size w W->Calls prog 21 #[] W λe w'=>(∃ r,e=.returned r/\OwnS w' W.heap.size r (zq2 63))/\Below W.heap.size W w'):=λW hb=>zq30 W (hN.below hb)
 have HNM:Hid (NmAt w/\OpsAt w):=⟨hN,hO⟩
 clear hN hO;go_enter func7,ntmps7;go_wp2_with fail
 refine AB.mono ?_;rintro e w1 ⟨rfl,hb1⟩;have HB1:Hid (Below w.heap.size w w1):=hb1;have PA:=HPA.out w1 hb1;clear AB HPA hb1;go_wp2_with fail
 refine PA.mono ?_;rintro e w2 ⟨⟨r,rfl,ho⟩,hb2⟩;have HB2:Hid (Below w.heap.size w w2):=zAB HB1.out hb2;obtain ⟨g,cap,rfl,hrg⟩:=zq44 ho (by rw [zq16];omega);obtain ⟨N,hN⟩:∃ N,(zq2 63).length=N:=⟨_,rfl⟩
 have hN49:N=49:=by rw [<-hN];exact zq16
 obtain ⟨ra,j,e1,e2,e3,e4,e5,hj⟩:=zq34 which N (by omega) (by omega);have hjl:j<(zq2 63).length:=by rw [hN];exact hj
 have hr:=hrg j hjl;obtain ⟨k,hk,hkn,hs⟩:=zq33 (List.getElem_mem hjl);rw [hs] at hr;have hz1:((N:Int) == 0)=false:=by simp;omega
 have hz2:¬ (N:Int)=0:=by omega
 have hj0:(0:Int)<=(j:Int):=by omega
 have hjN:(j:Int)<(N:Int):=by omega
 have HKK:Hid (k<63/\zAs (k:Int)=true):=⟨hk,hkn⟩
 obtain ⟨s,hss⟩:∃ s,sgI k=s:=⟨_,rfl⟩
 have HS:Hid (sgI k=s):=hss;rw [hss] at hr;rw [hN];obtain ⟨n0,hn0,hand⟩:=zq45 args;have hth:World.there (w2.alloc (.cells zeros6 66)) w2.heap.size 0 s.cs.toArray.size:=(AtL.new0 w2 _ _:AtL (w2.alloc (.cells zeros6 66)) w2.heap.size zeros6.toList).there;have HPS:Hid (AtL ((w2.alloc (.cells zeros6 66)).setCells w2.heap.size 0 s.cs) w2.heap.size s.cs):=(AtL.new0 w2 _ _:AtL (w2.alloc (.cells zeros6 66)) w2.heap.size zeros6.toList).setAll rfl;have HB3:Hid (Below w.heap.size w ((w2.alloc (.cells zeros6 66)).setCells w2.heap.size 0 s.cs)):=zAB HB2.out (zAo (zAK (Below.refl _ w2) _) (Nat.le_refl _) _ 0);have HN0:Hid (n0<=31):=hn0;clear PA ho hb2 hrg hN hN49 hjl hk hkn hs hss hj hn0 HB1;go_upto_region 7 with (first | (refine zAA (by rfl) 66 (.tmp 33) rfl g (0+j * 6) rfl s.cs _ (by rw [Nat.zero_add];exact hr) underlying66 rfl (by kernel_rfl) ?_) | (refine zAA (by rfl) 66 (.tmp 33) rfl g (j * 6) rfl s.cs _ hr underlying66 rfl (by kernel_rfl) ?_) | ((with_reducible refine wpList_store_mid ?_ 66 (.tmp 8) (.tmp 34) ?_ w2.heap.size 0 s.cs.toArray ?_ ?_ ?_ ?_ ?_ ?_);rfl;rfl;rfl;rfl;exact hth;kernel_rfl;exact zq41 _))
 clear hth hr;generalize ((w2.alloc (.cells zeros6 66)).setCells w2.heap.size 0 s.cs)=W3 at *;obtain ⟨k8,hk8⟩:∃ k,w2.heap.size=k:=⟨_,rfl⟩
 rw [hk8] at HPS;simp only [hk8];clear hk8 HB2 e1 e2 e3 e4 e5 hz1 hz2 hj0 hjN;go_upto_if 38 with fail
 go_cut [1] (λs1 wx=>∃ n:Nat,s1=.int .i64 (n:Int)/\Hid (n<=30)/\W3=wx)
 case first =>
  by_cases h30:(30:Int)<(n0:Int)
  ·go_wp2;go_meet
   case rel=>exact ⟨30,rfl,(Nat.le_refl _:30<=30),rfl⟩
  ·have HN30:Hid (n0<=30):=by show n0<=30;omega
   go_wp2;go_meet
   case rel=>exact ⟨n0,rfl,HN30,rfl⟩
 case rest =>
 obtain ⟨n,rfl,HN30,rfl⟩:=hcut;clear hand HN0;have hnm:s.nm=⟨(zEa (k:Int)).toArray⟩:=by rw [<-HS.out];rfl
 have c2:W3.cell? ⟨k8,2,none⟩=some (.string ⟨(zEa (k:Int)).toArray⟩):=by
  have:=HPS.out.2.1 2 _ rfl;rw [hnm] at this;exact this
 have HOW:Hid (OwnN (W3.alloc (.cells (zAM (caN k n)).toArray 56)) W3.heap.size (.slice (some ⟨W3.heap.size,0,none⟩) 1 1) (caN k n::List.replicate 0 (lfN b))):=zq32 W3 (caN k n);have HBA:Hid (Below W3.heap.size W3 (W3.alloc (.cells (zAM (caN k n)).toArray 56))):=zAK (Below.refl _ W3) _;clear hnm;go_upto_region 11 with (first | (refine zq6 rfl (.tmp 40) (.tmp 41) rfl ⟨(zEa (k:Int)).toArray⟩ (n:Int) rfl rfl ?_) | (refine zFV rfl (.tmp 42) rfl (caN k n) rfl ?_))
 clear c2;generalize (W3.alloc (.cells (zAM (caN k n)).toArray 56))=W4 at *;go_upto_region 12 with fail
 go_loopg [9,10] n (λgk u9 u10 wr=>∃ (i:Nat) (va:Value),va=u9/\u10=.int .i64 (i:Int)/\gk=n - i/\i<=n/\Hid (OwnN wr W3.heap.size va (caN k n::List.replicate i (lfN b)))/\Hid (Below W3.heap.size W3 wr))
 case atStart=>exact ⟨0,_,rfl,rfl,rfl,Nat.zero_le _,HOW,HBA⟩
 case round =>
  clear HOW HBA;obtain ⟨i,va,rfl,rfl,hg,hi,HO,HB⟩:=hrel;by_cases hlt:i<n
  ·have hli:(i:Int)<(n:Int):=by omega
   have hwi:IntKind.i64.wrap ((i:Int)+1)=(i:Int)+1:=by rw [IntKind.wrap_i64];have:=HN30.out;omega
   cases b with
   | true =>
    have hb3:=zAK (Below.refl _ wr) (.cells (zAM (lfN true)).toArray 56);have pA:=AtL.new0 wr 56 (zAM (lfN true));have HO2:Hid (OwnN (wr.alloc (.cells (zAM (lfN true)).toArray 56)) W3.heap.size va (caN k n::List.replicate i (lfN true))):=HO.out.below hb3;have HB5:Hid (Below W3.heap.size W3 (wr.alloc (.cells (zAM (lfN true)).toArray 56))):=zAB HB.out hb3;have hsz:=HB5.out.size;have hln:(caN k n::List.replicate i (lfN true)).length<=1000:=by simp;have:=HN30.out;omega
    have HFX:Hid (∀ (v':Value) (w':World),OwnN w' W3.heap.size v' ((caN k n::List.replicate i (lfN true))++[lfN true])->(wr.alloc (.cells (zAM (lfN true)).toArray 56)).grownBy w' va.ownBlock->OwnN w' W3.heap.size v' (caN k n::List.replicate (i+1) (lfN true))/\Below W3.heap.size W3 w'):=λv' w' h1 h2=>by
     rw [List.replicate_succ',<-List.cons_append];exact ⟨h1,HB5.out.grown h2 HB5.out.size (λk e=>(zAL HO2.out e).1)⟩
    clear hb3 HO HB;go_wp2_with (first | (refine zq13 rfl rfl ?_) | (refine zq7 rfl (.tmp 51) rfl rfl ?_) | (refine zFV rfl (.tmp 52) rfl (lfN true) rfl ?_) | (refine zq4 rfl (.tmp 50) (.tmp 53) rfl W3.heap.size (wr.alloc (.cells (zAM (lfN true)).toArray 56)) hsz va (caN k n::List.replicate i (lfN true)) rfl HO2.out wr.heap.size (lfN true) rfl pA.range hln ?_;intro v' w' own' hg'))
    obtain ⟨f1,f2⟩:=HFX.out v' w' own' hg';go_roundg (n - (i+1))
    case rel=>exact ⟨i+1,v',rfl,by simp,rfl,hlt,f1,f2⟩
    case measure=>omega
   | false =>
    have hb3:=zAK (Below.refl _ wr) (.cells (zAM (lfN false)).toArray 56);have pA:=AtL.new0 wr 56 (zAM (lfN false));have HO2:Hid (OwnN (wr.alloc (.cells (zAM (lfN false)).toArray 56)) W3.heap.size va (caN k n::List.replicate i (lfN false))):=HO.out.below hb3;have HB5:Hid (Below W3.heap.size W3 (wr.alloc (.cells (zAM (lfN false)).toArray 56))):=zAB HB.out hb3;have hsz:=HB5.out.size;have hln:(caN k n::List.replicate i (lfN false)).length<=1000:=by simp;have:=HN30.out;omega
    have HFX:Hid (∀ (v':Value) (w':World),OwnN w' W3.heap.size v' ((caN k n::List.replicate i (lfN false))++[lfN false])->(wr.alloc (.cells (zAM (lfN false)).toArray 56)).grownBy w' va.ownBlock->OwnN w' W3.heap.size v' (caN k n::List.replicate (i+1) (lfN false))/\Below W3.heap.size W3 w'):=λv' w' h1 h2=>by
     rw [List.replicate_succ',<-List.cons_append];exact ⟨h1,HB5.out.grown h2 HB5.out.size (λk e=>(zAL HO2.out e).1)⟩
    clear hb3 HO HB;go_wp2_with (first | (refine zq5 rfl rfl ?_) | (refine zq9 rfl (.tmp 56) rfl rfl ?_) | (refine zq11 rfl (.tmp 57) rfl rfl ?_) | (refine zFV rfl (.tmp 58) rfl (lfN false) rfl ?_) | (refine zq4 rfl (.tmp 55) (.tmp 59) rfl W3.heap.size (wr.alloc (.cells (zAM (lfN false)).toArray 56)) hsz va (caN k n::List.replicate i (lfN false)) rfl HO2.out wr.heap.size (lfN false) rfl pA.range hln ?_;intro v' w' own' hg'))
    obtain ⟨f1,f2⟩:=HFX.out v' w' own' hg';go_roundg (n - (i+1))
    case rel=>exact ⟨i+1,v',rfl,by simp,rfl,hlt,f1,f2⟩
    case measure=>omega
  ·have hli:¬ (i:Int)<(n:Int):=by omega
   have hin:i=n:=by omega
   subst hin;have hb3:=zAK (Below.refl _ wr) (.cells #[.string ⟨#[83]⟩] 9);obtain ⟨av,cap2,rfl,hcap,hrd,hpo⟩:=zIz HO.out;obtain ⟨gn,rfl⟩:=hpo (by simp);have hBW:Below w.heap.size w (wr.alloc (.cells #[.string ⟨#[83]⟩] 9)):=zAB HB3.out (zAB HB.out hb3);have rS:(wr.alloc (.cells #[.string ⟨#[83]⟩] 9)).cell? ⟨wr.heap.size,0,none⟩=some (.string ⟨#[83]⟩):=(AtL.new0 wr 9 [.string ⟨#[83]⟩]).2.1 0 _ rfl;have hRS:RdS (wr.alloc (.cells #[.string ⟨#[83]⟩] 9)) (some ⟨wr.heap.size,0,none⟩) nmS:=λj hj=>by
    have hj0:j=0:=by simp [nmS] at hj;omega
    subst hj0;exact ⟨wr.heap.size,0,rfl,rS⟩
   obtain ⟨kk,kn⟩:=HKK.out;have hEE:=ca_E (n:=i) b kk kn;have HRT:Hid (flE 0 0 0 nmS 2 (caT k i b)=0->Wc.chkP rgt (flC 0 nmS 2 (caT k i b))=true/\2<=(flC 0 nmS 2 (caT k i b)).length):=λq=>zIF (zq26 b kk kn HN30.out) q
   have HCL:Hid ((flC 0 nmS 2 (caT k i b)).length<=20000):=by
    show _<=_
    have h7:=zIL 0 (nmS.take 16) 2 (caT k i b) 0;rw [zq24,zq27] at h7;have:=HN30.out;simp only [flC,List.length_append,List.length_cons,List.length_nil];omega
   have FL:=Calls.mono (zGU 2 (caT k i b) gn 0 cap2 (caR k i b) 0 0 0 (some ⟨wr.heap.size,0,none⟩) nmS 1 1 _ (zq43 b kk kn) (HNM.out.2.below hBW) (HNM.out.1.below hBW) (hrd.below hb3) hRS (zq29 b kk kn HN30.out) (zq24 k i b) (zq26 b kk kn HN30.out) (by rw [zq27];have:=HN30.out;omega) hcap (caR k i b).length rfl rfl (Nat.le_refl _) (by simp [nmS]) (by omega)) (λ_ _ h=>h.q);rw [hEE] at FL HRT;generalize flC 0 nmS 2 (caT k i b)=C at *;have hln2:(caN k i::List.replicate i (lfN b)).length=(caR k i b).length:=rfl;rw [hln2];have HBX:Hid (Below W3.heap.size W3 (wr.alloc (.cells #[.string ⟨#[83]⟩] 9))):=zAB HB.out hb3;obtain ⟨E,hE⟩:∃ E:Int,(if (i:Int)<(zAO (k:Int)).l \/ (zAO (k:Int)).m<(i:Int) then 81 else if zq1 (zAO (k:Int)).p.data.toList b i=false then 82 else 0)=E:=⟨_,rfl⟩
   have HE:Hid ((if (i:Int)<(zAO (k:Int)).l \/ (zAO (k:Int)).m<(i:Int) then 81 else if zq1 (zAO (k:Int)).p.data.toList b i=false then 82 else 0)=E):=hE;rw [hE] at FL HRT;clear hE hEE hln2 hcap hrd hBW rS hRS kk kn HO HB hb3 hi hlt hg;go_wp2_with fail
   refine FL.mono ?_;rintro e wf ⟨⟨fa,fm,fc,rfl,hf1,hf2⟩,hbf⟩;have HF1:Hid (E ≠ 0->fm=0):=hf1;have HF2:Hid (E=0->RdC wf (.slice fa fm fc) C):=λq=>by
    obtain ⟨P,p1,p2,p3,p4⟩:=hf2 q;exact zDZ p1 p2 p3
   have HBF:Hid (Below w.heap.size w wf):=zAB HB3.out (zAB HBX.out hbf);have hP:=AtL.below hbf (AtL.below HBX.out HPS.out);have HPF:Hid (AtL wf k8 s.cs):=hP;have hl:s.l=(zAO (k:Int)).l:=by rw [<-HS.out];rfl
   have hm:s.m=(zAO (k:Int)).m:=by rw [<-HS.out];rfl
   have c3:wf.cell? ⟨k8,3,none⟩=some (.int .i64 (zAO (k:Int)).l):=by rw [<-hl];exact hP.2.1 3 _ rfl
   have c4:wf.cell? ⟨k8,4,none⟩=some (.int .i64 (zAO (k:Int)).m):=by rw [<-hm];exact hP.2.1 4 _ rfl
   obtain ⟨lo,hlo⟩:∃ x,(zAO (k:Int)).l=x:=⟨_,rfl⟩
   obtain ⟨mo,hmo⟩:∃ x,(zAO (k:Int)).m=x:=⟨_,rfl⟩
   rw [hlo,hmo] at HE;rw [hlo] at c3;rw [hmo] at c4;clear FL hf1 hf2 hbf hP hl hm hlo hmo HBX HPS HB3;by_cases h81:(i:Int)<lo
   ·have hE:=HE.out;rw [if_pos (Or.inl h81)] at hE;subst hE;have hfm:=HF1.out (by omega);subst hfm;go_wp2;go_ret;exact ⟨rfl,HBF.out⟩
   by_cases h82:mo<(i:Int)
   ·have hE:=HE.out;rw [if_pos (Or.inr h82)] at hE;subst hE;have hfm:=HF1.out (by omega);subst hfm;go_wp2;go_ret;exact ⟨rfl,HBF.out⟩
   have HE2:Hid ((if zq1 (zAO (k:Int)).p.data.toList b i=false then (82:Int) else 0)=E):=by
    have:=HE.out;rw [if_neg (by omega)] at this;exact this
   clear HE;have hpp:s.p=(zAO (k:Int)).p:=by rw [<-HS.out];rfl
   obtain ⟨_,lk2,lk3⟩:=zq35 HKK.out.1 HKK.out.2;obtain ⟨p,hp⟩:∃ p,(zAO (k:Int)).p=p:=⟨_,rfl⟩
   rw [hp] at lk2 lk3 hpp HE2;have HP:Hid (0<p.size/\p.size<=10):=⟨lk2,lk3⟩
   have c5:wf.cell? ⟨k8,5,none⟩=some (.string p):=by rw [<-hpp];exact HPF.out.2.1 5 _ rfl
   clear lk2 lk3 hpp hp HPF HS HKK;have d81:decide ((i:Int)<lo)=false:=decide_eq_false h81;have d82:decide (mo<(i:Int))=false:=decide_eq_false h82;go_wp2_with fail
   clear c3 c4;go_loopg [13,14] i (λgk u13 u14 wr2=>∃ (j:Nat) (q:Bool),u13=.bool q/\u14=.int .i64 (j:Int)/\gk=i - j/\j<=i/\Hid (zq1 p.data.toList b j=q)/\wf=wr2)
   case atStart=>exact ⟨0,true,rfl,rfl,rfl,Nat.zero_le _,(rfl:zq1 p.data.toList b 0=true),rfl⟩
   case round =>
    obtain ⟨j,q,rfl,rfl,hg,hi,HQ,rfl⟩:=hrel;by_cases hlt:j<i
    ·have hli2:(j:Int)<(i:Int):=by omega
     have hjz:(0:Int)<=(j:Int):=by omega
     have hwj:IntKind.i64.wrap ((j:Int)+1)=(j:Int)+1:=by rw [IntKind.wrap_i64];have:=HN30.out;omega
     obtain ⟨kx,hkx⟩:∃ kx,min j (p.data.toList.length - 1)=kx:=⟨_,rfl⟩
     have hps:p.data.toList.length=p.size:=Array.length_toList;have hkp:kx<p.size:=by have:=HP.out;omega
     obtain ⟨c,hc⟩:∃ c,p[kx]=c:=⟨_,rfl⟩
     have hlp:p.data.toList.getD kx 0=c:=by
      rw [<-hc];rw [List.getD_eq_getElem?_getD,List.getElem?_eq_getElem (by rw [hps];exact hkp)];rfl
     have hsb:IntKind.i64.wrap ((p.size:Int) - 1)=(p.size:Int) - 1:=by have:=HP.out;rw [IntKind.wrap_i64];omega
     have HMN:Hid ((if (p.size:Int) - 1<(j:Int) then (p.size:Int) - 1 else (j:Int))=(kx:Int)):=by show _=_;have:=HP.out;split <;> omega
     have HKC:Hid (kx<p.size/\∀ h:kx<p.size,p[kx]=c):=⟨hkp,λ_=>hc⟩
     have HQ2:Hid (zq1 p.data.toList b (j+1)=(q && okc c b)):=by
      show _=_
      rw [zq21,HQ.out,hkx,hlp]
     clear hkx hps hlp hc hkp HQ;go_upto_region 25 with (first | (refine zEe rfl (.tmp 92) (.tmp 96) _ rfl (j:Int) ((p.size:Int) - 1) (kx:Int) rfl rfl HMN.out ?_) | (refine zFY rfl 9 (.tmp 91) (.tmp 97) rfl p rfl kx rfl (by kernel_rfl) c HKC.out.1 (HKC.out.2 _) ?_))
     clear hsb HMN HKC;obtain ⟨z1,hz1⟩:∃ z,((c.toNat:Int) == 120)=z:=⟨_,rfl⟩
     obtain ⟨z2,hz2⟩:∃ z,((c.toNat:Int) == 97)=z:=⟨_,rfl⟩
     have HOK:Hid ((q && okc c b)=(q && (z1 || (z2 == b)))):=by
      show _=_
      have e1:(c == 120)=z1:=by
       rw [<-hz1];by_cases h:c=120
       ·subst h;rfl
       ·have h1:(c == 120)=false:=by simpa using h
        have h2:((c.toNat:Int) == 120)=false:=by
         have:=zQI (d:=120) h;have h4:(120:UInt8).toNat=120:=rfl;have h3:¬ (c.toNat:Int)=120:=by omega
         simpa using h3
        rw [h1,h2]
      have e2:(c == 97)=z2:=by
       rw [<-hz2];by_cases h:c=97
       ·subst h;rfl
       ·have h1:(c == 97)=false:=by simpa using h
        have h2:((c.toNat:Int) == 97)=false:=by
         have:=zQI (d:=97) h;have h4:(97:UInt8).toNat=97:=rfl;have h3:¬ (c.toNat:Int)=97:=by omega
         simpa using h3
        rw [h1,h2]
      unfold okc;rw [e1,e2]
     have HQ3:Hid (zq1 p.data.toList b (j+1)=(q && (z1 || (z2 == b)))):=HQ2.out.trans HOK.out;clear HQ2 HOK;have ST:∀ q':Bool,q'=(q && (z1 || (z2 == b)))->Hid (zq1 p.data.toList b (j+1)=q'):=λq' e=>by rw [e];exact HQ3
     cases q with
     | false =>
      have HF:=ST false rfl;clear ST HQ3;go_wp2;go_roundg (i - (j+1))
      case rel=>exact ⟨j+1,false,rfl,by simp,rfl,hlt,HF,rfl⟩
      case measure=>omega
     | true =>
      cases z1 with
      | true =>
       have HF:=ST true rfl;clear ST HQ3;go_wp2;go_roundg (i - (j+1))
       case rel=>exact ⟨j+1,true,rfl,by simp,rfl,hlt,HF,rfl⟩
       case measure=>omega
      | false =>
       cases z2 with
       | true =>
        cases b with
        | true =>
         have HF:=ST true rfl;clear ST HQ3;go_wp2;go_roundg (i - (j+1))
         case rel=>exact ⟨j+1,true,rfl,by simp,rfl,hlt,HF,rfl⟩
         case measure=>omega
        | false =>
         have HF:=ST false rfl;clear ST HQ3;go_wp2;go_roundg (i - (j+1))
         case rel=>exact ⟨j+1,false,rfl,by simp,rfl,hlt,HF,rfl⟩
         case measure=>omega
       | false =>
        cases b with
        | true =>
         have HF:=ST false rfl;clear ST HQ3;go_wp2;go_roundg (i - (j+1))
         case rel=>exact ⟨j+1,false,rfl,by simp,rfl,hlt,HF,rfl⟩
         case measure=>omega
        | false =>
         have HF:=ST true rfl;clear ST HQ3;go_wp2;go_roundg (i - (j+1))
         case rel=>exact ⟨j+1,true,rfl,by simp,rfl,hlt,HF,rfl⟩
         case measure=>omega
    ·have hli2:¬ (j:Int)<(i:Int):=by omega
     have hji:j=i:=by omega
     subst hji;have hE:=HE2.out;rw [HQ.out] at hE;clear HE2 HQ c5;cases q with
     | false =>
      rw [if_pos rfl] at hE;subst hE;have hfm:=HF1.out (by omega);subst hfm;go_wp2;go_ret;exact ⟨rfl,HBF.out⟩
     | true =>
      rw [if_neg (by simp)] at hE;subst hE;have rc:=HF2.out rfl;obtain ⟨ck,cl⟩:=HRT.out rfl;have fit:=zNu ck;have hl1:C.length<=1000000:=by have:=HCL.out;omega
      have TW:=zK9 C _ wf rc hl1 (λx hx=>(fit x hx).1);have HCK:Hid (∀ (W:World) (v:Value),Below wf.heap.size wf W->RdC W v C->Calls prog 17 #[v] W λe w'=>e=.returned (.int .i64 0)/\Below W.heap.size W w'):=λW v hb h=>by
       have:=zBe C v W h hl1 fit (HNM.out.1.below (zAB HBF.out hb));rw [ck,if_pos rfl] at this;exact this
      clear rc ck cl fit hl1 HF1 HF2 HRT HCL;go_wp2_with fail
      refine TW.mono ?_;rintro e w5 ⟨⟨G2,cap4',B2,P2,rfl,hBw,own3,tw⟩,hb5⟩;have rc5:=(⟨own3,tw⟩:TwS w5 B2 G2 cap4' P2 C).rd;have CK:=HCK.out w5 _ hb5 rc5;have HB5:Hid (Below w.heap.size w w5):=zAB HBF.out hb5;clear TW own3 tw hBw rc5 hb5 HCK;go_wp2_with fail
      refine CK.mono ?_;rintro e w6 ⟨rfl,hb6⟩;have HB6:Hid (Below w.heap.size w w6):=zAB HB5.out hb6;clear CK hb6 HB5 HBF;go_wp2;go_ret;exact ⟨rfl,HB6.out⟩
open Go.ChangeShapes Go.WideShapes Go.ChangeAt Go.RowKit Go.Joins Go.Deep
theorem zq31 {H:Type} {enc:TypeId × Value->H} {spare:Nat->Bool} {r:Reach} {b0:Nat} {t:TypeId} {d:DataW H} {ps:List MemPlace} (ht:P.underlying t=some .bool) (hval:Value.okWide P w r b0 t v) (hd:DataW.Trod enc P w base spare held t v d ps) :
  ∃ n,v=.bool n/\d=.lit (.bool n)/\ps=[]:=by
 obtain ⟨n,rfl⟩:=okWide_bool ht hval;obtain ⟨fuel,hf⟩:=hd;obtain ⟨n',h,hx⟩:=DataW.trod_bool ht hf;simp [Value.cells] at h;subst h;simp only [Prod.mk.injEq] at hx;exact ⟨n,rfl,hx.1,hx.2⟩
theorem zCo {H:Type} {enc:TypeId × Value->H} {sp:Nat->Bool} {fuel:Nat} {t e:TypeId} {c:Nat} {cs:List Value} {ds:List (DataW H)} {p:List MemPlace}
  (ht:P.underlying t=some (.array n e)) (hce:P.cellsOf e=c) (hct:P.cellsOf t=n * c)
  (h:DataW.trod enc P w base sp held fuel t cs=some (.agg ds,p)):cs.length=n * c/\ds.length=n/\∀ i d,ds[i]? = some d->∃ fuel' p',DataW.trod enc P w base sp held fuel' e ((cs.drop (i * c)).take c)=some (d,p'):=by
 cases fuel with
 | zero=>simp [DataW.trod] at h
 | succ fuel =>
  simp only [DataW.trod,ht,hce,hct] at h;split at h
  ·rename_i hl
   obtain ⟨xs,hm,hx⟩:=Option.map_eq_some_iff.1 h;have hxs:xs.map (·.1)=ds:=by
    have:=congrArg Prod.fst hx;simpa using this
   have hxl:xs.length=n:=by simpa using Lib.mapM_length hm
   refine ⟨by simpa using hl,by rw [<-hxs];simpa using hxl,λi d hd=>?_⟩;have hi:i<n:=by
    have:=(List.getElem?_eq_some_iff.1 hd).1;rw [<-hxs,List.length_map] at this;omega
   obtain ⟨b,hb,hf⟩:=Lib.mapM_at hm i i (by simp [hi]);have:(xs.map (·.1))[i]? = some b.1:=by simp [hb]
   rw [hxs,hd] at this;obtain rfl:=Option.some.inj this;exact ⟨fuel,b.2,hf⟩
  ·cases h
theorem zRI {rest:List (String × DataW Unit)} (h:laidMet prog (("whittle/funcs.names",.agg (fnN.map λx=>.lit (.string x)))::rest) W):NmAt W:=by
 obtain ⟨ps,⟨g',t',cs,fuel,p,q,hg',ht',hvar,hd,_,_⟩,_⟩:=h;have hg:prog.globalNamed "whittle/funcs.names" = some 0:=by kernel_rfl
 have hty:(prog.globals[0]?).map (·.type)=some 100:=by kernel_rfl
 obtain rfl:=Option.some.inj (hg.symm.trans hg');obtain rfl:=Option.some.inj (hty.symm.trans ht');obtain ⟨h1,h2,h3⟩:=zCo (n:=63) (c:=1) (e:=9) underlying100 (by kernel_rfl) (by kernel_rfl) hd;intro j v hv;unfold nmR at hv;rw [List.getElem?_map] at hv;obtain ⟨x,hx,rfl⟩:=Option.map_eq_some_iff.1 hv;obtain ⟨fu,p',ht⟩:=h3 j (.lit (.string x)) (by rw [List.getElem?_map,hx];rfl);obtain ⟨s,e1,e2,_⟩:=DataW.trod_string underlying9 ht;simp only [Prod.mk.injEq,DataW.lit.injEq,Lit.string.injEq] at e2;rw [Nat.zero_add,World.var?_cell hg hvar j];have:cs.toList[j]? = some (.string s):=by
  have:=congrArg (·[0]?) e1;simpa [List.getElem?_take,List.getElem?_drop] using this
 rw [Array.getElem?_toList] at this;have es:s=⟨x.toArray⟩:=by
  apply ByteArray.ext
  apply Array.ext'
  exact e2.1.symm
 rw [this,es]
theorem zRA {s:ByteArray} {l:List UInt8} (h:s.data.toList=l):s=⟨l.toArray⟩:=by
 apply ByteArray.ext
 apply Array.ext'
 rw [h]
theorem zPT {α β:Type} (f:α->List β) (hf:∀ x,(f x).length=3):∀ (l:List α) (i:Nat) (hi:i<l.length) (r:Nat),r<3->(l.flatMap f)[i * 3+r]? = (f l[i])[r]?
 | [],i,hi,r,hr=>absurd hi (Nat.not_lt_zero _)
 | x::l,0,hi,r,hr=>by
  rw [List.flatMap_cons,List.getElem?_append_left (by rw [hf];omega)];simp
 | x::l,i+1,hi,r,hr=>by
  rw [List.flatMap_cons,List.getElem?_append_right (by rw [hf];omega),hf,show (i+1) * 3+r - 3=i * 3+r by omega];rw [zPT f hf l i (by simpa using hi) r hr];simp
theorem zPq {rest:List (String × DataW Unit)} (h:laidMet prog (("whittle/tree.operators",.agg (Wt.opsT.map λx=>.agg [.lit (.int .i64 x.1),.lit (.string x.2.1),.lit (.int .i64 x.2.2)]))::rest) W):OpsAt W:=by
 obtain ⟨ps,⟨g',t',cs,fuel,p,q,hg',ht',hvar,hd,_,_⟩,_⟩:=h;have hg:prog.globalNamed "whittle/tree.operators" = some 1:=by kernel_rfl
 have hty:(prog.globals[1]?).map (·.type)=some 181:=by kernel_rfl
 obtain rfl:=Option.some.inj (hg.symm.trans hg');obtain rfl:=Option.some.inj (hty.symm.trans ht');obtain ⟨h1,h2,h3⟩:=zCo (n:=15) (c:=3) (e:=155) underlying181 (by kernel_rfl) (by kernel_rfl) hd;have c3:prog.cellsOf 3=1:=by kernel_rfl
 have c9:prog.cellsOf 9=1:=by kernel_rfl
 have key:∀ i x,Wt.opsT[i]? = some x->cs.toList[i * 3]? = some (.int .i64 x.1)/\cs.toList[i * 3+1]? = some (.string ⟨x.2.1.toArray⟩)/\cs.toList[i * 3+2]? = some (.int .i64 x.2.2):=by
  intro i x hx;obtain ⟨fu,p',ht⟩:=h3 i _ (by rw [List.getElem?_map,hx];rfl);obtain ⟨y0,y1,y2,n,e,-,t0,t1,t2⟩:=Deep.trod_struct3 underlying155 ht;simp only [Prod.mk.injEq,DataW.agg.injEq,List.cons.injEq,and_true] at e;obtain ⟨z0,f0,g0,_⟩:=DataW.trod_int underlying3 t0;obtain ⟨z1,f1,g1,_⟩:=DataW.trod_string underlying9 t1;obtain ⟨z2,f2,g2,_⟩:=DataW.trod_int underlying3 t2;subst g0 g1 g2;simp only [DataW.lit.injEq,Lit.int.injEq,Lit.string.injEq,true_and] at e;obtain ⟨⟨rfl,e1,rfl⟩,-⟩:=e;simp only [c3] at f0 f2;simp only [c9] at f1;have q0:=congrArg (·[0]?) f0;have q1:=congrArg (·[0]?) f1;have q2:=congrArg (·[0]?) f2;simp [List.getElem?_drop] at q0 q1 q2;refine ⟨?_,?_,?_⟩
  ·rw [Array.getElem?_toList];exact q0
  ·rw [Array.getElem?_toList,q1,zRA e1.symm]
  ·rw [Array.getElem?_toList];exact q2
 intro j v hv;rw [Nat.zero_add,World.var?_cell hg hvar j];have hj:j<45:=by
  have:=(List.getElem?_eq_some_iff.1 hv).1;have e:opsR.length=45:=rfl;omega
 have hi:j / 3<Wt.opsT.length:=by show j / 3<15;omega
 obtain ⟨k0,k1,k2⟩:=key (j / 3) _ (List.getElem?_eq_getElem hi);have hf:=zPT (λx:Int × List UInt8 × Int=>([.int .i64 x.1,.string ⟨x.2.1.toArray⟩,.int .i64 x.2.2]:List Value)) (λ_=>rfl) Wt.opsT (j / 3) hi;have hm:j % 3=0 \/ j % 3=1 \/ j % 3=2:=by omega
 rcases hm with hm | hm | hm
 ·have e:j=j / 3 * 3+0:=by omega
  have:=hf 0 (by decide);rw [<-e] at this;rw [show opsR[j]? = _ from this] at hv;rw [show j=j / 3 * 3 by omega,<-Array.getElem?_toList,k0];exact hv
 ·have e:j=j / 3 * 3+1:=by omega
  have:=hf 1 (by decide);rw [<-e] at this;rw [show opsR[j]? = _ from this] at hv;rw [e,<-Array.getElem?_toList,k1];exact hv
 ·have e:j=j / 3 * 3+2:=by omega
  have:=hf 2 (by decide);rw [<-e] at this;rw [show opsR[j]? = _ from this] at hv;rw [e,<-Array.getElem?_toList,k2];exact hv
