/- Lemmas. -/
import Derived.Test.YtefkclbaflkheaaGreatDoorQ31
import Derived.Lib.LaidTab
import Derived.Deep.Strs
import Derived.Stop.LaidErr
import Derived.Deep.Slices
import Derived.Lib.SmallJoins
import Derived.SizedLaws
import Derived.Carry
import Derived.ProofKit
set_option maxHeartbeats 4000000
set_option maxRecDepth 100000
namespace Go.Proofs.YtefkclbaflkheaaGreatDoor
open Tryz
open Go.RowKit Wf
set_option linter.unusedVariables false
variable {w W:World} {op:Oper} {a:Act} {ops:Array Oper} {rest:List Oper} {Q:Exit->Act->World->Prop}
def ndL:Wt.Nd:=⟨2,Wt.v0,0,⟨#[]⟩,0,Wt.r0,Wt.r0⟩
def trL:Tr 1:=(⟨ndL,[]⟩:Br (Tr 0))
def nmL:List ByteArray:=[⟨#[83]⟩]
theorem zNA:row 1 trL=[ndL]:=rfl
theorem zJa:zAz 1 trL:=⟨by kernel_rfl,by kernel_rfl,λk hk=>by cases hk⟩
theorem zII:Wt.check [ndL]=0:=by kernel_rfl
theorem zLz:∀ x ∈ [ndL],Wt.FitN x:=by
 intro x hx;simp only [List.mem_cons,List.not_mem_nil,or_false] at hx;subst hx;unfold Wt.FitN Wt.FitV;decide
theorem zOh:flE 0 3 0 nmL 1 trL=0:=by kernel_rfl
theorem zOo:flC 0 nmL 1 trL=[ins 2 0 0,ins 16 0 0]:=by kernel_rfl
theorem zNC:Wc.chkP rgt [ins 2 0 0,ins 16 0 0]=true:=by kernel_rfl
theorem zL8:(usA [ins 2 0 0,ins 16 0 0]).length=1:=by kernel_rfl
theorem zH0:∀ x ∈ [ins 2 0 0,ins 16 0 0],x.2.length<=1000000/\Wt.FitV x.1.v:=by
 intro x hx;simp only [List.mem_cons,List.not_mem_nil,or_false] at hx;rcases hx with rfl | rfl
 ·exact ⟨by simp [ins],by unfold Wt.FitV;decide⟩
 ·exact ⟨by simp [ins],by unfold Wt.FitV;decide⟩
theorem zPW (w:World):(Instr.build 35 #[(0,.int .i64 2)]).run prog w=.ok (.agg (zAG ndL).toArray) w:=by kernel_rfl
theorem zFS (hgd:op.guard=none) (ho:op.op=.build 35 #[(0,.const (.int .i64 2))])
  (h:wpList prog ops Q rest (a.put op.dst (.agg (zAG ndL).toArray)) w):wpList prog ops Q (op::rest) a w:=by
 refine wpList_plain hgd λK hK=>?_
 unfold Oper.wp execOp;simp only [ho,List.map_toArray,List.map_cons,List.map_nil,Act.eval,Sem.run_bind,Sem.run_pure,Result.andThen_ok,zPW];exact hK _ _ h
theorem zPX (x:Wt.Nd) (w:World):(Instr.buildSlice 22 1 #[(0,.agg (zAG x).toArray)]).run prog w=.ok (.slice (some ⟨w.heap.size,0,none⟩) 1 1) (w.alloc (.cells (zAG x).toArray 35)):=by kernel_rfl
theorem zFO (hgd:op.guard=none) (y:Operand) (ho:op.op=.buildSlice 22 1 #[(0,y)]) (x:Wt.Nd) (hy:a.eval y=.agg (zAG x).toArray)
  (h:wpList prog ops Q rest (a.put op.dst (.slice (some ⟨w.heap.size,0,none⟩) 1 1)) (w.alloc (.cells (zAG x).toArray 35))):wpList prog ops Q (op::rest) a w:=by
 refine wpList_plain hgd λK hK=>?_
 unfold Oper.wp execOp;simp only [ho,List.map_toArray,List.map_cons,List.map_nil,hy,Sem.run_bind,Sem.run_pure,Result.andThen_ok,zPX];exact hK _ _ h
theorem zK3 (w:World) (hN:NmAt w) (hO:OpsAt w):CR 6 #[] w (.bool true):=by
 have hb0:=zAM (zAM (Below.refl _ w) (.cells (zAG ndL).toArray 35)) (.cells #[.string ⟨#[83]⟩] 9);have rN:((w.alloc (.cells (zAG ndL).toArray 35)).alloc (.cells #[.string ⟨#[83]⟩] 9)).rangeAt w.heap.size 0 (zAG ndL):=((AtL.new0 w 35 (zAG ndL)).alloc _).range;have rS:((w.alloc (.cells (zAG ndL).toArray 35)).alloc (.cells #[.string ⟨#[83]⟩] 9)).cell? ⟨w.heap.size+1,0,none⟩=some (.string ⟨#[83]⟩):=(AtL.new1 w (.cells (zAG ndL).toArray 35) 9 [.string ⟨#[83]⟩]).2.1 0 _ rfl;have hRN:RdN ((w.alloc (.cells (zAG ndL).toArray 35)).alloc (.cells #[.string ⟨#[83]⟩] 9)) (some ⟨w.heap.size,0,none⟩) [ndL]:=λi hi=>by
  have hi0:i=0:=by simp at hi;omega
  subst hi0;exact ⟨w.heap.size,0,rfl,rN⟩
 have hRS:RdS ((w.alloc (.cells (zAG ndL).toArray 35)).alloc (.cells #[.string ⟨#[83]⟩] 9)) (some ⟨w.heap.size+1,0,none⟩) nmL:=λi hi=>by
  have hi0:i=0:=by simp [nmL] at hi;omega
  subst hi0;exact ⟨w.heap.size+1,0,rfl,rS⟩
 have FL:=zFh 1 trL w.heap.size 0 1 [ndL] 0 3 0 (some ⟨w.heap.size+1,0,none⟩) nmL 1 1 _ zLz (hO.below hb0) (hN.below hb0) hRN hRS zII zNA zJa (by simp) (by simp) 1 rfl rfl (Nat.le_refl _) (by simp [nmL]) (by omega) (λq hq=>zHD 0 (nmL.take 16) _ q 1 hq (by rw [List.length_take];omega) 0 (λt=>Empty.elim t) trL λh=>absurd (show (2:Int)=6 from h) (by decide)) (λq=>zFo 0 (nmL.take 16) _ q 1 0 trL (λh=>absurd (show (2:Int)=4 \/ (2:Int)=5 from h) (by decide)) (λh=>absurd (show (2:Int)=6 from h) (by decide)) λh=>absurd (show (2:Int)=1 from h) (by decide));rw [zOh,zOo] at FL;have HN:Hid (NmAt w):=hN;clear rN rS hRN hRS hN hO;go_enter func6,ntmps6;go_wp2_with (first | (refine zFS rfl rfl ?_) | (refine zFO rfl (.tmp 4) rfl ndL rfl ?_))
 refine FL.mono ?_;rintro e w1 ⟨hq,hb1⟩;rcases hq with ⟨hq,_⟩ | ⟨_,lv,P,rfl,own,hl,hin,_⟩
 ·exact absurd rfl hq
 have hB1:=zAB hb0 hb1;have rc:=zHC own hl hin;have CK:=zGk _ lv w1 rc (by simp) zH0 (HN.out.below hB1);rw [zNC,if_pos rfl] at CK;have HUS:Hid (∀ W:World,Below w1.heap.size w1 W->Calls prog 16 #[lv] W λe w'=>(∃ r B,e=.returned r/\OwnA w' B r (usA [ins 2 0 0,ins 16 0 0])/\W.heap.size<=B)/\Below W.heap.size W w'):=λW hb=>zJj _ lv W (rc.below hb) (by simp) zH0 (HN.out.below (zAB hB1 hb))
 obtain ⟨av,cap,e0,rr⟩:=rc;obtain ⟨G,off,p0,m0,k0,e1,r0,_,_⟩:=rr 0 (by simp);obtain ⟨G',off',p1,m1,k1,e2,r1,_,_⟩:=rr 1 (by simp);subst e0;rw [e1] at e2;cases e2
 subst e1;have c0:w1.cell? ⟨G,off+0 * 23,none⟩=some (.int .i64 2):=r0 0 _ rfl;have c1:w1.cell? ⟨G,off+1 * 23,none⟩=some (.int .i64 16):=r1 0 _ rfl;rw [Nat.zero_mul,Nat.add_zero] at c0;rw [Nat.one_mul] at c1;clear FL hb0 own hl hin hb1 r0 r1 rr;go_wp2_with fail
 refine CK.mono ?_;rintro e w2 ⟨rfl,hb2⟩;have US:=HUS.out w2 hb2;have hB2:=zAB hB1 hb2;clear CK HUS c0 c1 hb2 hB1;go_wp2_with fail
 refine US.mono ?_;rintro e w3 ⟨⟨r,B,rfl,ho,_⟩,hb3⟩;have hB3:=zAB hB2 hb3;have hr:∃ av c,r=.slice av 1 c:=by
  rcases ho.2 with ⟨_,q⟩ | ⟨g,c,cur,q,_⟩
  ·rw [zL8] at q;cases q
  ·rw [zL8] at q;exact ⟨_,_,q⟩
 obtain ⟨av,c,rfl⟩:=hr;clear US ho hb3 hB2;go_wp2;go_ret;exact ⟨rfl,hB3⟩
def NaP (m:Nat) (w:World) (e:Ending) (w':World):Prop:=(∃ b,e=.returned (.bool b)/\(b=false->m<=20000))/\Below w.heap.size w w'
theorem zIY (nm:List ByteArray) (av:Option Addr) (m cap:Nat) (w:World) (hm:m=nm.length) (hl:nm.length<=9223372036854775807) (hR:RdS w av nm):Calls prog 7 #[.slice av m cap] w (NaP m w):=by
 have HM:Hid (m=nm.length/\nm.length<=9223372036854775807):=⟨hm,hl⟩
 have HR:Hid (RdS w av nm):=hR;clear hm hl hR;go_enter func7,ntmps7;go_wp2_with fail
 go_loopg [3,4] m (λgk u x wr=>∃ (i:Nat) (T:Int),u=.int .i64 T/\x=.int .i64 (i:Int)/\gk=m - i/\i<=m/\Hid (20000<m->T=(m:Int))/\w=wr)
 case atStart=>exact ⟨0,(m:Int),rfl,rfl,rfl,Nat.zero_le _,(λ_=>rfl:20000<m->(m:Int)=(m:Int)),rfl⟩
 case round =>
  obtain ⟨i,T,rfl,rfl,hg,hi,HQ,rfl⟩:=hrel;by_cases hlt:i<m
  ·have hli:(i:Int)<(m:Int):=by omega
   by_cases hT:T<=20000
   ·have hiz:(0:Int)<=(i:Int):=by omega
    have hwi:IntKind.i64.wrap ((i:Int)+1)=(i:Int)+1:=by have:=HM.out;rw [IntKind.wrap_i64];omega
    have hln:i<nm.length:=by have:=HM.out;omega
    obtain ⟨bb,off,rfl,hc⟩:=HR.out i hln;obtain ⟨x,hx⟩:∃ x,nm[i]=x:=⟨_,rfl⟩
    rw [hx] at hc;have HQ2:Hid (¬ 20000<m):=λh=>by have:=HQ.out h;omega
    clear hx hln HQ;go_wp2;go_roundg (m - (i+1))
    case rel=>exact ⟨i+1,_,rfl,by simp,rfl,hlt,(λh=>absurd h HQ2.out:20000<m->_),rfl⟩
    case measure=>omega
   ·have hT2:20000<T:=by omega
    clear HQ;go_wp2;go_ret;exact ⟨⟨true,rfl,λh=>by cases h⟩,Below.refl _ _⟩
  ·have hli:¬ (i:Int)<(m:Int):=by omega
   have HT:Hid (¬ 20000<T->m<=20000):=λh=>by
    rcases Nat.lt_or_ge 20000 m with q | q
    ·have:=HQ.out q;omega
    ·exact q
   clear HQ;by_cases hT:20000<T
   ·go_wp2;go_ret;exact ⟨⟨true,rfl,λh=>by cases h⟩,Below.refl _ _⟩
   ·go_wp2;go_ret;exact ⟨⟨false,rfl,λ_=>HT.out (by omega)⟩,Below.refl _ _⟩
theorem zJ1 (s h:Operand) (ho:op.op=.slice 22 s none (some h) none) (av:Option Addr) (m cap q:Nat) (hs:a.eval s=.slice av m cap) (hh:a.eval h=.int .i64 (q:Int)) (hq:q<=m) (hc:m<=cap) (W:World):(execOp a.eval op).run prog W=.ok (.value (.slice av q cap)) W:=by
 have hu:prog.underlying 22=some (.slice (prog.elem 22)):=by kernel_rfl
 have hz:(sizeOf (prog.elem 22)).run prog W=.ok 20 W:=by kernel_rfl
 have hr:(Instr.sliceAt 22 (.slice av m cap) none (some (.int .i64 (q:Int))) none).run prog W=.ok (.slice av q cap) W:=by
  rw [run_sliceAt_slice W _ _ _ _ _ hu,run_slice_h W _ _ _ _ hu _ (q:Int) (by omega) (by omega),hz];have he:sliced av 0 q cap 20=.slice av q cap:=by
   unfold sliced;split
   ·rfl
   ·cases av <;> simp [Addr.add]
  rw [<-he];rfl
 unfold execOp;simp only [ho,Option.map_some,Option.map_none,hs,hh,Sem.run_bind,Sem.run_pure,Result.andThen_ok,hr]
theorem flq {E:Int} {C:List I} {e:Ending} {w':World} (h:(E ≠ 0/\e=.returned (.tuple #[.slice none 0 0,.int .i64 E])) \/ (E=0/\∃ lv P,e=.returned (.tuple #[lv,.int .i64 0])/\OwnI w' w.heap.size lv P/\P.length=C.length/\(∀ i (h:i<P.length) (h':i<C.length),(P[i]).1=(C[i]).1/\OwnZ w' w.heap.size (P[i]).2 (C[i]).2)/\∀ i j (h:i<P.length) (h':j<P.length) b,(P[i]).2.ownBlock=some b->(P[j]).2.ownBlock=some b->i=j)):∃ fa fm fc,e=.returned (.tuple #[.slice fa fm fc,.int .i64 E])/\RdC w' (.slice fa fm fc) (if E=0 then C else []):=by
 rcases h with ⟨h1,rfl⟩ | ⟨h1,lv,P,rfl,own,hl,hin,_⟩
 ·exact ⟨none,0,0,rfl,by rw [if_neg h1];exact ⟨none,0,rfl,λi hi=>absurd hi (Nat.not_lt_zero _)⟩⟩
 ·have hr:=zHC own hl hin;subst h1;obtain ⟨a,c,rfl,h2⟩:=hr;exact ⟨a,C.length,c,rfl,by rw [if_pos rfl];exact ⟨a,c,rfl,h2⟩⟩
theorem zMF (l:List Wt.Nd) (nm:List ByteArray) (av:Option Addr) (m cap:Nat) (av3:Option Addr) (m3 cap3:Nat) (own r c:Int) (w:World) (hm:m=l.length) (hm3:m3=nm.length) (hl:m<=20000) (hl3:m3<=20000) (hF:∀ x ∈ l,Wt.FitN x) (hr:RdN w av l) (hr3:RdS w av3 nm) (how:-9223372036854775808<=own/\own<=9223372036854775807) (hN:NmAt w) (hO:OpsAt w) :
  ∃ (E:Int) (C:List I),(C.length<=1000000/\∀ x ∈ C,x.2.length<=1000000)/\(∀ (W:World) (g cg:Nat) (a3:Option Addr) (c3:Nat),Below w.heap.size w W->RdN W (some ⟨g,0,none⟩) l->m<=cg->RdS W a3 nm->m3<=c3->Calls prog 8 #[.slice (some ⟨g,0,none⟩) m cg,.agg #[.int .i64 own,.int .i64 r,.int .i64 c],.slice a3 m3 c3] W (FlP E C W))/\∀ (W:World),Below w.heap.size w W->Calls prog 9 #[.slice av m cap,.agg #[.int .i64 own,.int .i64 r,.int .i64 c],.slice av3 m3 cap3] W (FlP E C W):=by
 by_cases hc:Wt.check l=0
 ·obtain ⟨t,hrow,hT,h256⟩:=zGh hc;have h0:0<l.length:=by rw [<-hrow];exact zFP _ t
  obtain ⟨bb,off,rfl,_⟩:=hr 0 h0;have h7:=zF2 own (nm.take 16) _ t 0;rw [hrow] at h7;refine ⟨flE own r c nm _ t,flC own nm _ t,⟨?_,zNP own nm _ t hT⟩,λW g cg a3 c3 hb h1 h2 h3 h4=>?_,λW hb=>?_⟩
  ·simp only [flC,List.length_append,List.length_cons,List.length_nil];omega
  ·exact zLR _ t g 0 cg l own r c a3 nm m3 c3 W hF (hO.below hb) (hN.below hb) h1 h3 hc hrow hT h256 (by omega) m hm hm3 h4 (by omega) how
  ·exact zI4 l.length t bb off cap l own r c av3 nm cap3 W hF (hr.below hb) (hr3.below hb) hc hrow hT h256 (Nat.le_refl _) m hm m3 hm3 (by omega)
 ·exact ⟨Wt.check l,[],⟨by simp,λx hx=>by cases hx⟩,λW g cg a3 c3 hb h1 h2 h3 h4=>zKm _ cg l own r c a3 m3 c3 W (by omega) hF (hO.below hb) h1 hc m hm,λW hb=>zJV av cap l own r c av3 m3 cap3 W (by omega) hF (hr.below hb) hc m hm⟩
theorem zMH (l:List Wt.Nd) (nm:List ByteArray) (av:Option Addr) (m cap:Nat) (av3:Option Addr) (m3 cap3:Nat) (own r c:Int) (w:World) (hm:m=l.length) (hm3:m3=nm.length) (hl:True->l.length<=9223372036854775807) (hl3:True->nm.length<=9223372036854775807) (hF:∀ x ∈ l,Wt.FitN x) (hr:RdN w av l) (hr3:RdS w av3 nm) (hno:av=none->m=0/\cap=0) (hno3:av3=none->m3=0/\cap3=0) (how:-9223372036854775808<=own/\own<=9223372036854775807) (hN:NmAt w) (hO:OpsAt w) :
  CR 3 #[.slice av m cap,.agg #[.int .i64 own,.int .i64 r,.int .i64 c],.slice av3 m3 cap3] w (.bool true):=by
 have hb0:=zAM (Below.refl _ w) (.cells #[.int .i64 own,.int .i64 r,.int .i64 c] 24);have pC:=AtL.new0 w 24 [.int .i64 own,.int .i64 r,.int .i64 c];have AB:=zK3 _ (hN.below hb0) (hO.below hb0);have HNA:Hid (∀ W:World,Below w.heap.size w W->Calls prog 7 #[.slice av3 m3 cap3] W (NaP m3 W)):=λW hb=>zIY nm av3 m3 cap3 W hm3 (hl3 trivial) (hr3.below hb)
 have HALL:Hid (m<=20000->m3<=20000->∃ (E:Int) (C:List I),(C.length<=1000000/\∀ x ∈ C,x.2.length<=1000000)/\(∀ (W:World) (g cg:Nat) (a3:Option Addr) (c3:Nat),Below w.heap.size w W->RdN W (some ⟨g,0,none⟩) l->m<=cg->RdS W a3 nm->m3<=c3->Calls prog 8 #[.slice (some ⟨g,0,none⟩) m cg,.agg #[.int .i64 own,.int .i64 r,.int .i64 c],.slice a3 m3 c3] W (FlP E C W))/\∀ (W:World),Below w.heap.size w W->Calls prog 9 #[.slice av m cap,.agg #[.int .i64 own,.int .i64 r,.int .i64 c],.slice av3 m3 cap3] W (FlP E C W)):=λh1 h2=>zMF l nm av m cap av3 m3 cap3 own r c w hm hm3 h1 h2 hF hr hr3 how hN hO
 have HB0:Hid (Below w.heap.size w (w.alloc (.cells #[.int .i64 own,.int .i64 r,.int .i64 c] 24))):=hb0;have HPC:Hid (AtL (w.alloc (.cells #[.int .i64 own,.int .i64 r,.int .i64 c] 24)) w.heap.size [.int .i64 own,.int .i64 r,.int .i64 c]):=pC;have HRN0:Hid (RdN w av l):=hr;have HRS0:Hid (RdS w av3 nm):=hr3;have HNO:Hid (av=none->m=0/\cap=0):=hno;have HNO3:Hid (av3=none->m3=0/\cap3=0):=hno3;have HMM:Hid (m=l.length/\m3=nm.length):=⟨hm,hm3⟩
 clear hb0 pC hm hm3 hl hl3 hF hr hr3 hno hno3 how hN hO;go_enter func3,ntmps3;go_upto_region 1 with fail
 generalize (w.alloc (.cells #[.int .i64 own,.int .i64 r,.int .i64 c] 24))=W at *;go_wp2_with fail
 refine AB.mono ?_;rintro e w1 ⟨rfl,hb1⟩;have HB1:Hid (Below w.heap.size w w1):=zAB HB0.out hb1;have HPC1:Hid (AtL w1 w.heap.size [.int .i64 own,.int .i64 r,.int .i64 c]):=AtL.below hb1 HPC.out;have NA:=HNA.out w1 HB1.out;clear AB HB0 HPC HNA hb1;by_cases hm20:(20000:Int)<(m:Int)
 ·go_wp2;go_ret;exact ⟨rfl,HB1.out⟩
 have HM20:Hid (m<=20000):=by show _<=_;omega
 go_wp2_with fail
 refine NA.mono ?_;rintro e w2 ⟨⟨q,rfl,hq⟩,hb2⟩;have HB2:Hid (Below w.heap.size w w2):=zAB HB1.out hb2;have HPC2:Hid (AtL w2 w.heap.size [.int .i64 own,.int .i64 r,.int .i64 c]):=AtL.below hb2 HPC1.out;have HQ:Hid (q=false->m3<=20000):=hq;clear NA HB1 HPC1 hb2 hq;cases q with
 | true =>
  go_wp2;go_ret;exact ⟨rfl,HB2.out⟩
 | false =>
 have h3:=HQ.out rfl;obtain ⟨E,C,hCB,hFL,hYF⟩:=HALL.out HM20.out h3;have HCB:Hid (C.length<=1000000/\∀ x ∈ C,x.2.length<=1000000):=hCB;have HFL:Hid (∀ (W:World) (g cg:Nat) (a3:Option Addr) (c3:Nat),Below w.heap.size w W->RdN W (some ⟨g,0,none⟩) l->m<=cg->RdS W a3 nm->m3<=c3->Calls prog 8 #[.slice (some ⟨g,0,none⟩) m cg,.agg #[.int .i64 own,.int .i64 r,.int .i64 c],.slice a3 m3 c3] W (FlP E C W)):=hFL;have HYF:Hid (∀ (W:World),Below w.heap.size w W->Calls prog 9 #[.slice av m cap,.agg #[.int .i64 own,.int .i64 r,.int .i64 c],.slice av3 m3 cap3] W (FlP E C W)):=hYF;have HM3:Hid (m3<=20000):=h3;clear hFL hYF hCB h3 HQ HALL
 -- region 5: g
 have hba:=zAM (Below.refl _ w2) (.cells #[] 35);have oN:=zFu w2 35 20;have rl:RdN (w2.alloc (.cells #[] 35)) av l:=HRN0.out.below (zAB HB2.out hba);have HML:Hid (l.length<=799644820177/\l.length+2<=799644820179):=by have:=HM20.out;have:=HMM.out;exact ⟨by omega,by omega⟩
 go_upto_region 5 with fail
 refine wp_region_lit ?_;refine zFD rfl rfl ?_;try simp only [Act.put,lA,lZ,lS]
 refine zHu ?_ (Or.inl ⟨by rfl,?_⟩) ?_;rotate_left
 ·go_simp
  try with_reducible rfl
 try simp only [Act.put,lA,lZ,lS]
 refine zG7 rfl (.tmp 24) (.tmp 25) rfl w2.heap.size (w2.alloc (.cells #[] 35)) hba.size (.slice (some ⟨w2.heap.size,0,none⟩) 0 0) rfl oN av l m cap HMM.out.1 rfl rl HNO.out (λ_=>HML.out.1) ?_;intro vN w3 oN3 hg3;try simp only [Act.put,lA,lZ,lS]
 refine zC2 rfl 77 rfl ?_;try simp only [Act.put,lA,lZ,lS]
 refine zC2 rfl 78 rfl ?_;try simp only [Act.put,lA,lZ,lS]
 refine zFA rfl (.tmp 27) (.tmp 28) rfl rfl rfl ?_;try simp only [Act.put,lA,lZ,lS]
 have hb4:=zAM (Below.refl _ w3) (.cells (zAG (ndK 77)++zAG (ndK 78)).toArray 35);have oN4:zJy (w3.alloc (.cells (zAG (ndK 77)++zAG (ndK 78)).toArray 35)) w2.heap.size vN l:=zAW (Fr.of_below [] hb4) oN3 (by simp);have f3:Fr [w2.heap.size] (w2.alloc (.cells #[] 35)) w3:=Fr.of_grown hg3 (λk e=>by cases e;simp);have hw3:w2.heap.size<=(w3.alloc (.cells (zAG (ndK 77)++zAG (ndK 78)).toArray 35)).heap.size:=Nat.le_trans hba.size (Nat.le_trans f3.size hb4.size);refine zGZ rfl (.tmp 26) (.tmp 29) rfl w2.heap.size (w3.alloc (.cells (zAG (ndK 77)++zAG (ndK 78)).toArray 35)) hw3 vN l rfl oN4 ⟨w3.heap.size,0,none⟩ [ndK 77,ndK 78] 2 2 rfl rfl (zPi w3) (λ_=>HML.out.2) ?_;intro vG w5 oG hg5;try simp only [Act.put,lA,lZ,lS]
 go_upto_region 6 with fail
 have hg0:=zLD oN;have HB5:Hid (Below w2.heap.size w2 w5):=by
  have h3:=zBA hba f3 (λk hk=>by simp at hk;omega);have h4:=zAB h3 hb4;exact zBA h4 (Fr.of_grown (S:=vN.ownBlock.toList) hg5 (λk e=>by simp [e])) (λk hk=>(zAK oN4 (by simpa using hk)).1)
 have HOG:Hid (zJy w5 w2.heap.size vG (l++[ndK 77,ndK 78])):=oG;clear hba oN rl hg3 oN3 hb4 oN4 f3 hw3 oG hg5 hg0 hm20
 -- region 6: h
 have hbb:=zAM (Below.refl _ w5) (.cells #[] 9);have oS:=zFu w5 9 1;have rs:RdS (w5.alloc (.cells #[] 9)) av3 nm:=HRS0.out.below (zAB (zAB HB2.out HB5.out) hbb);have HSL:Hid (nm.length<=20000/\nm.length+2<=20002):=by have:=HM3.out;have:=HMM.out;exact ⟨by omega,by omega⟩
 refine wp_region_lit ?_;refine zEq rfl rfl ?_;try simp only [Act.put,lA,lZ,lS]
 refine zHu ?_ (Or.inl ⟨by rfl,?_⟩) ?_;rotate_left
 ·go_simp
  try with_reducible rfl
 try simp only [Act.put,lA,lZ,lS]
 refine zGl rfl (.tmp 31) (.tmp 32) rfl w5.heap.size (w5.alloc (.cells #[] 9)) hbb.size (.slice (some ⟨w5.heap.size,0,none⟩) 0 0) rfl oS av3 nm m3 cap3 HMM.out.2 rfl rs HNO3.out (λ_=>HSL.out.1) ?_;intro vT w6 oT6 hg6;try simp only [Act.put,lA,lZ,lS]
 refine zFM rfl rfl ?_;try simp only [Act.put,lA,lZ,lS]
 have hb7:=zAM (Below.refl _ w6) (.cells #[.string ⟨#[120,55]⟩,.string ⟨#[120,56]⟩] 9);have oT7:OwnT (w6.alloc (.cells #[.string ⟨#[120,55]⟩,.string ⟨#[120,56]⟩] 9)) w5.heap.size vT nm:=oT6.below hb7;have f6:Fr [w5.heap.size] (w5.alloc (.cells #[] 9)) w6:=Fr.of_grown hg6 (λk e=>by cases e;simp);have hw6:w5.heap.size<=(w6.alloc (.cells #[.string ⟨#[120,55]⟩,.string ⟨#[120,56]⟩] 9)).heap.size:=Nat.le_trans hbb.size (Nat.le_trans f6.size hb7.size);refine zGf rfl (.tmp 33) (.tmp 34) rfl w5.heap.size (w6.alloc (.cells #[.string ⟨#[120,55]⟩,.string ⟨#[120,56]⟩] 9)) hw6 vT nm rfl oT7 ⟨w6.heap.size,0,none⟩ [⟨#[120,55]⟩,⟨#[120,56]⟩] 2 2 rfl rfl (zPj w6) (λ_=>HSL.out.2) ?_;intro vH w8 oH hg8;try simp only [Act.put,lA,lZ,lS]
 go_upto_region 7 with fail
 have HB8:Hid (Below w5.heap.size w5 w8):=by
  have h3:=zBA hbb f6 (λk hk=>by simp at hk;omega);have h4:=zAB h3 hb7;exact zBA h4 (Fr.of_grown (S:=vT.ownBlock.toList) hg8 (λk e=>by simp [e])) (λk hk=>(zAK oT7 (by simpa using hk)).1)
 have HOH:Hid (OwnT w8 w5.heap.size vH (nm++[⟨#[120,55]⟩,⟨#[120,56]⟩])):=oH;have HOG8:Hid (zJy w8 w2.heap.size vG (l++[ndK 77,ndK 78])):=zAW (Fr.of_below [] HB8.out) HOG.out (by simp);have HBX:Hid (Below w.heap.size w w8):=zAB (zAB HB2.out HB5.out) HB8.out;clear hbb oS rs hg6 oT6 hb7 oT7 f6 hw6 oH hg8 HOG;obtain ⟨mG,hmG⟩:∃ mG,m+2=mG:=⟨_,rfl⟩
 obtain ⟨mS,hmS⟩:∃ mS,m3+2=mS:=⟨_,rfl⟩
 obtain ⟨gN,capN,rfl,hcN,rG⟩:∃ g c,vG=.slice (some ⟨g,0,none⟩) mG c/\mG<=c/\RdN w8 (some ⟨g,0,none⟩) (l++[ndK 77,ndK 78]):=by
  obtain ⟨av9,c9,e,h1,h2,h3⟩:=zN5 HOG8.out;obtain ⟨g,rfl⟩:=h3 (by simp);have hln:(l++[ndK 77,ndK 78]).length=mG:=by rw [List.length_append,<-HMM.out.1,<-hmG];rfl
  rw [hln] at e h1;exact ⟨g,c9,e,h1,h2⟩
 obtain ⟨gS,capS,rfl,hcS,rS⟩:∃ g c,vH=.slice (some ⟨g,0,none⟩) mS c/\mS<=c/\RdS w8 (some ⟨g,0,none⟩) (nm++[⟨#[120,55]⟩,⟨#[120,56]⟩]):=by
  have hln:(nm++[(⟨#[120,55]⟩:ByteArray),⟨#[120,56]⟩]).length=mS:=by rw [List.length_append,<-HMM.out.2,<-hmS];rfl
  obtain ⟨av9,c9,e,h1,h2⟩:=zME HOH.out;rcases HOH.out.2 with ⟨e2,h9⟩ | ⟨g,cap',cur,e2,_⟩
  ·rw [hln] at h9;omega
  ·rw [e2] at e;cases e
   rw [hln] at e2 h1;exact ⟨g,_,e2,h1,h2⟩
 have HGS:Hid (m<=mG/\mG<=capN/\m3<=mS/\mS<=capS):=⟨by omega,hcN,by omega,hcS⟩
 have hdr:=(Below.refl w8.heap.size w8).drew;have HBD:Hid (Below w.heap.size w w8.drew):=zAB HBX.out hdr;have rGD:=rG.below hdr;have rSD:=rS.below hdr;obtain ⟨c0,c1,c2,_,_,_⟩:=(AtL.below (zAB HB8.out hdr) (AtL.below HB5.out HPC2.out)).three;clear hdr rG rS hcN hcS HOG8 HOH HPC2 HB5 HB8 HBX HB2;go_upto_region 7 with fail
 refine wp_region_held_drew (S:=λW=>W.cell? ⟨w.heap.size,0,none⟩=some (.int .i64 own)/\W.cell? ⟨w.heap.size,1,none⟩=some (.int .i64 r)/\W.cell? ⟨w.heap.size,2,none⟩=some (.int .i64 c)) (by kernel_rfl) ⟨c0,c1,c2⟩ (λhHeld=>?_);generalize w8.drew=WD at *;refine tkQ 0 ?_
 refine tkQ 1 ?_
 refine tkQ 2 ?_
 refine wpAnyH_take (i:=3) (v:=.slice (some ⟨gN,0,none⟩) m capN) (atQ rfl) (by kernel_rfl) (by kernel_rfl) (by kernel_rfl) (λ_ _ _ h=>h) (Or.inl ⟨by rfl,λW _=>zJ1 (.tmp 37) (.tmp 39) rfl (some ⟨gN,0,none⟩) mG capN m rfl rfl HGS.out.1 HGS.out.2.1 W⟩) (by assumption) ?_;try simp only [Act.put,lA,lZ,lS]
 refine tkQ 4 ?_
 refine tkQ 5 ?_
 refine tkQ 6 ?_
 refine tkQ 7 ?_
 refine wpAnyH_take (i:=8) (v:=.slice (some ⟨gS,0,none⟩) m3 capS) (atQ rfl) (by kernel_rfl) (by kernel_rfl) (by kernel_rfl) (λ_ _ _ h=>h) (Or.inl ⟨by rfl,λW _=>zGB (.tmp 42) (.tmp 44) rfl (some ⟨gS,0,none⟩) mS capS m3 rfl rfl HGS.out.2.2.1 HGS.out.2.2.2 (λe=>by cases e) W⟩) (by assumption) ?_;try simp only [Act.put,lA,lZ,lS]
 refine rdQ 9 (λK hK=>?_);go_simp
 refine (HFL.out WD gN capN (some ⟨gS,0,none⟩) capS HBD.out rGD.left (Nat.le_trans HGS.out.1 HGS.out.2.1) rSD.left (Nat.le_trans HGS.out.2.2.1 HGS.out.2.2.2)).mono ?_;rintro e w9 ⟨hq,hb9⟩;obtain ⟨fa,fm,fc,rfl,hrx⟩:=flq hq;clear hq;go_wp2_with fail
 replace c0:=zAC hb9 c0
 replace c1:=zAC hb9 c1
 replace c2:=zAC hb9 c2
 refine hkQ hK ⟨c0,c1,c2⟩ (λhHeld=>?_);clear hK K
 refine tkQ 10 ?_
 refine tkQ 11 ?_
 refine tkQ 12 ?_
 refine rdQ 13 (λK hK=>?_);go_simp
 refine hkQ hK ⟨c0,c1,c2⟩ (λhHeld=>?_);clear hK K
 refine rdQ 14 (λK hK=>?_);go_simp
 refine hkQ hK ⟨c0,c1,c2⟩ (λhHeld=>?_);clear hK K
 refine wpAnyH_done (by kernel_rfl) ?_ _;clear hHeld;have HB9:Hid (Below w.heap.size w w9):=zAB HBD.out hb9;have rG9:=rGD.below hb9;have rS9:=rSD.below hb9;have HX9:Hid (RdC w9 (.slice fa fm fc) (if E=0 then C else [])):=hrx;clear rGD rSD hrx hb9 HBD HFL;obtain ⟨CC,hCC⟩:∃ CC,(if E=0 then C else [])=CC:=⟨_,rfl⟩
 have HCC:Hid (CC.length<=1000000/\∀ x ∈ CC,x.2.length<=1000000):=by
  show _/\_
  rw [<-hCC];split
  ·exact HCB.out
  ·exact ⟨by simp,λx hx=>by cases hx⟩
 rw [hCC] at HX9;have RY:=HYF.out w9 HB9.out;go_wp2_with fail
 refine RY.mono ?_;rintro e wA ⟨hq,hbA⟩;obtain ⟨ya,ym,yc,rfl,hry⟩:=flq hq;rw [hCC] at hry;have HBA:Hid (Below w.heap.size w wA):=zAB HB9.out hbA;have SM:=zNl CC _ _ wA (HX9.out.below hbA) hry HCC.out.1 HCC.out.2;have rGA:=rG9.below hbA;have rSA:=rS9.below hbA;clear RY hq hry hbA HX9 rG9 rS9 c0 c1 c2 hCC HYF HCB HB9;have hwm:IntKind.i64.wrap ((m:Int)+1)=(m:Int)+1:=by have:=HM20.out;rw [IntKind.wrap_i64];omega
 have hwm3:IntKind.i64.wrap ((m3:Int)+1)=(m3:Int)+1:=by have:=HM3.out;rw [IntKind.wrap_i64];omega
 have hg0:(m:Int)<(mG:Int):=by omega
 have hg1:(m:Int)+1<(mG:Int):=by omega
 have hs0:(m3:Int)<(mS:Int):=by omega
 have hs1:(m3:Int)+1<(mS:Int):=by omega
 have hz0:(0:Int)<=(m:Int):=by omega
 have hz1:(0:Int)<=(m:Int)+1:=by omega
 have hz2:(0:Int)<=(m3:Int):=by omega
 have hz3:(0:Int)<=(m3:Int)+1:=by omega
 have ht1:((m:Int)+1).toNat=m+1:=by omega
 have ht3:((m3:Int)+1).toNat=m3+1:=by omega
 have HG:Hid (RdN wA (some ⟨gN,0,none⟩) (l++[ndK 77,ndK 78])):=rGA;have HS:Hid (RdS wA (some ⟨gS,0,none⟩) (nm++[⟨#[120,55]⟩,⟨#[120,56]⟩])):=rSA;have k77:wA.cell? ⟨gN,m * 20+9,none⟩=some (.int .i64 77):=by
  obtain ⟨b,o,e,hc⟩:=rGA m (by rw [List.length_append,HMM.out.1];simp);cases e
  have h9:=hc 9 (.int .i64 77) (by rw [List.getElem_append_right (by rw [HMM.out.1];exact Nat.le_refl _)];simp [HMM.out.1];rfl);simpa using h9
 have k78:wA.cell? ⟨gN,(m+1) * 20+9,none⟩=some (.int .i64 78):=by
  obtain ⟨b,o,e,hc⟩:=rGA (m+1) (by rw [List.length_append,HMM.out.1];simp);cases e
  have h9:=hc 9 (.int .i64 78) (by rw [List.getElem_append_right (by rw [HMM.out.1];omega)];simp [HMM.out.1];rfl);simpa using h9
 have q55:wA.cell? ⟨gS,m3,none⟩=some (.string ⟨#[120,55]⟩):=by
  obtain ⟨b,o,e,hc⟩:=rSA m3 (by rw [List.length_append,HMM.out.2];simp);cases e
  rw [List.getElem_append_right (by rw [HMM.out.2];exact Nat.le_refl _)] at hc;simpa [HMM.out.2] using hc
 have q56:wA.cell? ⟨gS,m3+1,none⟩=some (.string ⟨#[120,56]⟩):=by
  obtain ⟨b,o,e,hc⟩:=rSA (m3+1) (by rw [List.length_append,HMM.out.2];simp);cases e
  rw [List.getElem_append_right (by rw [HMM.out.2];omega)] at hc;simpa [HMM.out.2] using hc
 have HGZ:Hid (m+2=mG/\m3+2=mS):=⟨hmG,hmS⟩
 clear rGA rSA hmG hmS;go_wp2_with fail
 refine SM.mono ?_;rintro e wB ⟨rfl,hbB⟩;have HBB:Hid (Below w.heap.size w wB):=zAB HBA.out hbB;replace k77:=zAC hbB k77
 replace k78:=zAC hbB k78
 replace q55:=zAC hbB q55
 replace q56:=zAC hbB q56
 have HGB:Hid (RdN wB (some ⟨gN,0,none⟩) (l++[ndK 77,ndK 78])):=HG.out.below hbB;have HSB:Hid (RdS wB (some ⟨gS,0,none⟩) (nm++[⟨#[120,55]⟩,⟨#[120,56]⟩])):=HS.out.below hbB;clear SM hbB HG HS HBA HCC;go_wp2_with fail
 clear k77 k78 q55 q56 hwm hwm3 hg0 hg1 hs0 hs1 hz0 hz1 hz2 hz3 ht1 ht3;go_loopg [13] m (λgk y wr=>∃ i:Nat,y=.int .i64 (i:Int)/\gk=m - i/\i<=m/\Hid (Below wB.heap.size wB wr))
 case atStart=>exact ⟨0,rfl,rfl,Nat.zero_le _,Below.refl _ _⟩
 case round =>
  obtain ⟨i,rfl,hg,him,HB⟩:=hrel;by_cases hlt:i<m
  ·have hli:(i:Int)<(m:Int):=by omega
   have hiz:(0:Int)<=(i:Int):=by omega
   have hwi:IntKind.i64.wrap ((i:Int)+1)=(i:Int)+1:=by have:=HM20.out;rw [IntKind.wrap_i64];omega
   have hig:(i:Int)<(mG:Int):=by have:=HGZ.out;omega
   have hil:i<l.length:=by have:=HMM.out;omega
   obtain ⟨bx,ox,rfl,hx⟩:=HRN0.out i hil;obtain ⟨b9,o9,e9,hg9⟩:=HGB.out i (by rw [List.length_append];omega);cases e9
   rw [List.getElem_append_left hil] at hg9;obtain ⟨x,hx0⟩:∃ x,l[i]=x:=⟨_,rfl⟩
   rw [hx0] at hx hg9;have hdr:=(Below.refl wr.heap.size wr).drew;have hBD:=zAB HB.out hdr;have xg:wr.drew.rangeAt gN (i * 20) (zAG x):=by
    have h9:=zAF hBD hg9;rw [Nat.zero_add] at h9;exact h9
   have xl:wr.drew.rangeAt bx (ox+i * 20) (zAG x):=zAF (zAB HBB.out hBD) hx;have HBN:Hid (Below wB.heap.size wB wr.drew):=hBD;clear hil hx hg9 hx0 hdr hBD HB;go_upto_region 14 with fail
   refine wp_region_held_drew (S:=λW=>W.rangeAt gN (i * 20) (zAG x)/\W.rangeAt bx (ox+i * 20) (zAG x)) (by kernel_rfl) ⟨xg,xl⟩ (λhHeld=>?_);generalize wr.drew=WD at *;refine tkQ 0 ?_
   refine tkQ 1 ?_
   refine tkQ 2 ?_
   refine wpAnyH_take (i:=3) (v:=.agg (zAG x).toArray) (atQ rfl) (by kernel_rfl) (by kernel_rfl) (by kernel_rfl) (λ_ _ _ h=>h) (yieldsIf_load_mid (by rfl) 35 (.tmp 109) rfl gN (i * 20) rfl (zAG x) _ (λ_ h=>h.1) underlying35 rfl (by kernel_rfl)) (by assumption) ?_;try simp only [Act.put,lA,lZ,lS]
   refine tkQ 4 ?_
   refine tkQ 5 ?_
   refine tkQ 6 ?_
   refine wpAnyH_take (i:=7) (v:=.agg (zAG x).toArray) (atQ rfl) (by kernel_rfl) (by kernel_rfl) (by kernel_rfl) (λ_ _ _ h=>h) (yieldsIf_load_mid (by rfl) 35 (.tmp 113) rfl bx (ox+i * 20) rfl (zAG x) _ (λ_ h=>h.2) underlying35 rfl (by kernel_rfl)) (by assumption) ?_;try simp only [Act.put,lA,lZ,lS]
   refine wpAnyH_take (i:=8) (v:=.bool false) (atQ rfl) (by kernel_rfl) (by kernel_rfl) (by kernel_rfl) (λ_ _ _ h=>h) (Or.inl ⟨by rfl,λw _=>zIJ x w rfl rfl⟩) (by assumption) ?_;try simp only [Act.put,lA,lZ,lS]
   refine wpAnyH_done (by kernel_rfl) ?_ _;clear hHeld;go_wp2_with fail
   go_roundg (m - (i+1))
   case rel=>exact ⟨i+1,by simp,rfl,hlt,HBN⟩
   case measure=>omega
  ·have hli:¬ (i:Int)<(m:Int):=by omega
   have HBC:Hid (Below w.heap.size w wr):=zAB HBB.out HB.out;have HSC:Hid (RdS wr (some ⟨gS,0,none⟩) (nm++[⟨#[120,55]⟩,⟨#[120,56]⟩])):=HSB.out.below HB.out;clear HB HBB HSB HGB hlt him hg;go_wp2_with fail
   clear hli;generalize wr=wC at *;go_loopg [14] m3 (λgk y wr=>∃ i:Nat,y=.int .i64 (i:Int)/\gk=m3 - i/\i<=m3/\Hid (Below wC.heap.size wC wr))
   case atStart=>exact ⟨0,rfl,rfl,Nat.zero_le _,Below.refl _ _⟩
   case round =>
    obtain ⟨i,rfl,hg,him,HB⟩:=hrel;by_cases hlt:i<m3
    ·have hli:(i:Int)<(m3:Int):=by omega
     have hiz:(0:Int)<=(i:Int):=by omega
     have hwi:IntKind.i64.wrap ((i:Int)+1)=(i:Int)+1:=by have:=HM3.out;rw [IntKind.wrap_i64];omega
     have hig:(i:Int)<(mS:Int):=by have:=HGZ.out;omega
     have hil:i<nm.length:=by have:=HMM.out;omega
     obtain ⟨bx,ox,rfl,hx⟩:=HRS0.out i hil;obtain ⟨b9,o9,e9,hg9⟩:=HSC.out i (by rw [List.length_append];omega);cases e9
     rw [List.getElem_append_left hil] at hg9;obtain ⟨x,hx0⟩:∃ x,nm[i]=x:=⟨_,rfl⟩
     rw [hx0] at hx hg9;have hdr:=(Below.refl wr.heap.size wr).drew;have hBD:=zAB HB.out hdr;have xg:wr.drew.cell? ⟨gS,i,none⟩=some (.string x):=by
      have h9:=zAC hBD hg9;rw [Nat.zero_add] at h9;exact h9
     have xl:wr.drew.cell? ⟨bx,ox+i,none⟩=some (.string x):=zAC (zAB HBC.out hBD) hx;have HBN:Hid (Below wC.heap.size wC wr.drew):=hBD;clear hil hx hg9 hx0 hdr hBD HB;go_upto_region 19 with fail
     refine wp_region_held_drew (S:=λW=>W.cell? ⟨gS,i,none⟩=some (.string x)/\W.cell? ⟨bx,ox+i,none⟩=some (.string x)) (by kernel_rfl) ⟨xg,xl⟩ (λhHeld=>?_);generalize wr.drew=WD at *;refine tkQ 0 ?_
     refine tkQ 1 ?_
     refine tkQ 2 ?_
     refine tkQ 3 ?_
     refine tkQ 4 ?_
     refine tkQ 5 ?_
     refine tkQ 6 ?_
     refine tkQ 7 ?_
     refine tkQ 8 ?_
     refine wpAnyH_done (by kernel_rfl) ?_ _;clear hHeld;go_wp2_with fail
     go_roundg (m3 - (i+1))
     case rel=>exact ⟨i+1,by simp,rfl,hlt,HBN⟩
     case measure=>omega
    ·have hli:¬ (i:Int)<(m3:Int):=by omega
     have hB:=zAB HBC.out HB.out;go_wp2;go_ret;exact ⟨rfl,hB⟩
open Go.RowKit
theorem zCu {H:Type} {enc:TypeId × Value->H} {P:Program} {base:Nat} {sp:Nat->Bool} {held:Bool} {fuel:Nat} {t e:TypeId} {n c:Nat} {cs:List Value} {ds:List (DataW H)} {p:List MemPlace}
  (ht:P.underlying t=some (.array n e)) (hce:P.cellsOf e=c) (hct:P.cellsOf t=n * c)
  (h:DataW.trod enc P w base sp held fuel t cs=some (.agg ds,p)):cs.length=n * c/\ds.length=n/\∀ i d,ds[i]? = some d->∃ fuel' p',DataW.trod enc P w base sp held fuel' e ((cs.drop (i * c)).take c)=some (d,p'):=by
 cases fuel with
 | zero=>simp [DataW.trod] at h
 | succ fuel =>
  simp only [DataW.trod,ht,hce,hct] at h;split at h
  ·rename_i hl
   obtain ⟨xs,hm,hx⟩:=Option.map_eq_some_iff.1 h;have hxs:xs.map (·.1)=ds:=by
    have:=congrArg Prod.fst hx;simpa using this
   have hxl:xs.length=n:=by simpa using Lib.mapM_length hm
   refine ⟨by simpa using hl,by rw [<-hxs];simpa using hxl,λi d hd=>?_⟩;have hi:i<n:=by
    have:=(List.getElem?_eq_some_iff.1 hd).1;rw [<-hxs,List.length_map] at this;omega
   obtain ⟨b,hb,hf⟩:=Lib.mapM_at hm i i (by simp [hi]);have:(xs.map (·.1))[i]? = some b.1:=by simp [hb]
   rw [hxs,hd] at this;obtain rfl:=Option.some.inj this;exact ⟨fuel,b.2,hf⟩
  ·cases h
theorem zOz {rest:List (String × DataW Unit)} (h:laidMet prog (("whittle/funcs.names",.agg (fnN.map λx=>.lit (.string x)))::rest) W):NmAt W:=by
 obtain ⟨ps,⟨g',t',cs,fuel,p,q,hg',ht',hvar,hd,_,_⟩,_⟩:=h;have hg:prog.globalNamed "whittle/funcs.names" = some 0:=by kernel_rfl
 have hty:(prog.globals[0]?).map (·.type)=some 178:=by kernel_rfl
 obtain rfl:=Option.some.inj (hg.symm.trans hg');obtain rfl:=Option.some.inj (hty.symm.trans ht');obtain ⟨h1,h2,h3⟩:=zCu (n:=63) (c:=1) (e:=9) underlying178 (by kernel_rfl) (by kernel_rfl) hd;intro j v hv;unfold nmR at hv;rw [List.getElem?_map] at hv;obtain ⟨x,hx,rfl⟩:=Option.map_eq_some_iff.1 hv;obtain ⟨fu,p',ht⟩:=h3 j (.lit (.string x)) (by rw [List.getElem?_map,hx];rfl);obtain ⟨s,e1,e2,_⟩:=DataW.trod_string underlying9 ht;simp only [Prod.mk.injEq,DataW.lit.injEq,Lit.string.injEq] at e2;rw [Nat.zero_add,World.var?_cell hg hvar j];have:cs.toList[j]? = some (.string s):=by
  have:=congrArg (·[0]?) e1;simpa [List.getElem?_take,List.getElem?_drop] using this
 rw [Array.getElem?_toList] at this;have es:s=⟨x.toArray⟩:=by
  apply ByteArray.ext
  apply Array.ext'
  exact e2.1.symm
 rw [this,es]
theorem zOb {s:ByteArray} {l:List UInt8} (h:s.data.toList=l):s=⟨l.toArray⟩:=by
 apply ByteArray.ext
 apply Array.ext'
 rw [h]
theorem zON {α β:Type} (f:α->List β) (hf:∀ x,(f x).length=3):∀ (l:List α) (i:Nat) (hi:i<l.length) (r:Nat),r<3->(l.flatMap f)[i * 3+r]? = (f l[i])[r]?
 | [],i,hi,r,hr=>absurd hi (Nat.not_lt_zero _)
 | x::l,0,hi,r,hr=>by
  rw [List.flatMap_cons,List.getElem?_append_left (by rw [hf];omega)];simp
 | x::l,i+1,hi,r,hr=>by
  rw [List.flatMap_cons,List.getElem?_append_right (by rw [hf];omega),hf,show (i+1) * 3+r - 3=i * 3+r by omega];rw [zON f hf l i (by simpa using hi) r hr];simp
theorem zOY {rest:List (String × DataW Unit)} (h:laidMet prog (("whittle/tree.operators",.agg (Wt.opsT.map λx=>.agg [.lit (.int .i64 x.1),.lit (.string x.2.1),.lit (.int .i64 x.2.2)]))::rest) W):OpsAt W:=by
 obtain ⟨ps,⟨g',t',cs,fuel,p,q,hg',ht',hvar,hd,_,_⟩,_⟩:=h;have hg:prog.globalNamed "whittle/tree.operators" = some 1:=by kernel_rfl
 have hty:(prog.globals[1]?).map (·.type)=some 204:=by kernel_rfl
 obtain rfl:=Option.some.inj (hg.symm.trans hg');obtain rfl:=Option.some.inj (hty.symm.trans ht');obtain ⟨h1,h2,h3⟩:=zCu (n:=15) (c:=3) (e:=169) underlying204 (by kernel_rfl) (by kernel_rfl) hd;have c3:prog.cellsOf 3=1:=by kernel_rfl
 have c9:prog.cellsOf 9=1:=by kernel_rfl
 have key:∀ i x,Wt.opsT[i]? = some x->cs.toList[i * 3]? = some (.int .i64 x.1)/\cs.toList[i * 3+1]? = some (.string ⟨x.2.1.toArray⟩)/\cs.toList[i * 3+2]? = some (.int .i64 x.2.2):=by
  intro i x hx;obtain ⟨fu,p',ht⟩:=h3 i _ (by rw [List.getElem?_map,hx];rfl);obtain ⟨y0,y1,y2,n,e,-,t0,t1,t2⟩:=Deep.trod_struct3 underlying169 ht;simp only [Prod.mk.injEq,DataW.agg.injEq,List.cons.injEq,and_true] at e;obtain ⟨z0,f0,g0,_⟩:=DataW.trod_int underlying3 t0;obtain ⟨z1,f1,g1,_⟩:=DataW.trod_string underlying9 t1;obtain ⟨z2,f2,g2,_⟩:=DataW.trod_int underlying3 t2;subst g0 g1 g2;simp only [DataW.lit.injEq,Lit.int.injEq,Lit.string.injEq,true_and] at e;obtain ⟨⟨rfl,e1,rfl⟩,-⟩:=e;simp only [c3] at f0 f2;simp only [c9] at f1;have q0:=congrArg (·[0]?) f0;have q1:=congrArg (·[0]?) f1;have q2:=congrArg (·[0]?) f2;simp [List.getElem?_drop] at q0 q1 q2;refine ⟨?_,?_,?_⟩
  ·rw [Array.getElem?_toList];exact q0
  ·rw [Array.getElem?_toList,q1,zOb e1.symm]
  ·rw [Array.getElem?_toList];exact q2
 intro j v hv;rw [Nat.zero_add,World.var?_cell hg hvar j];have hj:j<45:=by
  have:=(List.getElem?_eq_some_iff.1 hv).1;have e:opsR.length=45:=rfl;omega
 have hi:j / 3<Wt.opsT.length:=by show j / 3<15;omega
 obtain ⟨k0,k1,k2⟩:=key (j / 3) _ (List.getElem?_eq_getElem hi);have hf:=zON (λx:Int × List UInt8 × Int=>([.int .i64 x.1,.string ⟨x.2.1.toArray⟩,.int .i64 x.2.2]:List Value)) (λ_=>rfl) Wt.opsT (j / 3) hi;have hm:j % 3=0 \/ j % 3=1 \/ j % 3=2:=by omega
 rcases hm with hm | hm | hm
 ·have e:j=j / 3 * 3+0:=by omega
  have:=hf 0 (by decide);rw [<-e] at this;rw [show opsR[j]? = _ from this] at hv;rw [show j=j / 3 * 3 by omega,<-Array.getElem?_toList,k0];exact hv
 ·have e:j=j / 3 * 3+1:=by omega
  have:=hf 1 (by decide);rw [<-e] at this;rw [show opsR[j]? = _ from this] at hv;rw [e,<-Array.getElem?_toList,k1];exact hv
 ·have e:j=j / 3 * 3+2:=by omega
  have:=hf 2 (by decide);rw [<-e] at this;rw [show opsR[j]? = _ from this] at hv;rw [e,<-Array.getElem?_toList,k2];exact hv
open Go.ChangeShapes Go.WideShapes Go.ChangeAt Go.RowKit Go.Joins Go.Deep
theorem zP8:prog.cellsOf 31=6:=by kernel_rfl
theorem zPT:prog.cellsOf 33=5:=by kernel_rfl
theorem zPY:prog.cellsOf 29=2:=by kernel_rfl
theorem zOk:prog.cellsOf 35=20:=by kernel_rfl
theorem zPL:prog.bytesOf 35=176:=by kernel_rfl
theorem zJn:prog.cellsOf 3=1:=by kernel_rfl
theorem zN6:prog.cellsOf 4=1:=by kernel_rfl
theorem zOr:prog.cellsOf 9=1:=by kernel_rfl
section
variable {H:Type} {enc:TypeId × Value->H} {w:World} {base:Nat} {spare:Nat->Bool} {held:Bool}
theorem zLp {n:Int} (h:(Lit.int .i64 n).wf=true):-9223372036854775808<=n/\n<=9223372036854775807:=bounds_i64 h
theorem zKJ {f0 f1:Field} (he:prog.underlying 29=some (.struct #[f0,f1])) (o0:f0.offset=0) (t0:f0.type=3) (o1:f1.offset=1) (t1:f1.type=3) {fuel:Nat} {c0 c1:Value} {x:DataW H × List MemPlace} (h:DataW.trod enc prog w base spare held fuel 29 [c0,c1]=some x):∃ n d:Int,c0=.int .i64 n/\c1=.int .i64 d/\(-9223372036854775808<=n/\n<=9223372036854775807)/\(-9223372036854775808<=d/\d<=9223372036854775807):=by
 obtain ⟨xs,q,_,hD,_,hxl,hg⟩:=DataW.trod_struct he h;have hxl:xs.length=2:=hxl;have g0:=hg 0 f0 rfl;rw [o0,t0,zJn] at g0;have g1:=hg 1 f1 rfl;rw [o1,t1,zJn] at g1;match xs,hxl with
 | [x0,x1],_ =>
  simp only [List.drop_zero,List.take_succ_cons,List.take_zero,List.drop_succ_cons,List.getElem?_cons_zero,List.getElem?_cons_succ] at g0 g1;obtain ⟨n,e1,_,k1⟩:=DataW.trod_int underlying3 g0;obtain ⟨d,e2,_,k2⟩:=DataW.trod_int underlying3 g1;simp only [List.cons.injEq,and_true] at e1 e2;exact ⟨n,d,e1,e2,zLp k1,zLp k2⟩
theorem zMQ {f0 f1 f2 f3 f4:Field} (he:prog.underlying 31=some (.struct #[f0,f1,f2,f3,f4])) (o0:f0.offset=0) (t0:f0.type=3) (o1:f1.offset=1) (t1:f1.type=29) (o2:f2.offset=3) (t2:f2.type=9) (o3:f3.offset=4) (t3:f3.type=4) (o4:f4.offset=5) (t4:f4.type=3) {fuel:Nat} {c0 c1 c2 c3 c4 c5:Value} {x:DataW H × List MemPlace} (h:DataW.trod enc prog w base spare held fuel 31 [c0,c1,c2,c3,c4,c5]=some x):∃ v:Wt.Vl,[c0,c1,c2,c3,c4,c5]=vl6 v/\Wt.FitV v:=by
 obtain ⟨xs,q,_,hD,_,hxl,hg⟩:=DataW.trod_struct he h;have hxl:xs.length=5:=hxl;have g0:=hg 0 f0 rfl;rw [o0,t0,zJn] at g0;have g1:=hg 1 f1 rfl;rw [o1,t1,zPY] at g1;have g2:=hg 2 f2 rfl;rw [o2,t2,zOr] at g2;have g3:=hg 3 f3 rfl;rw [o3,t3,zN6] at g3;have g4:=hg 4 f4 rfl;rw [o4,t4,zJn] at g4;match xs,hxl with
 | [x0,x1,x2,x3,x4],_ =>
  simp only [List.drop_zero,List.take_succ_cons,List.take_zero,List.drop_succ_cons,List.getElem?_cons_zero,List.getElem?_cons_succ] at g0 g1 g2 g3 g4;obtain ⟨k,e0,_,_⟩:=DataW.trod_int underlying3 g0;obtain ⟨n,d,e1,e2,k1,k2⟩:=zKJ underlying29 rfl rfl rfl rfl g1;obtain ⟨s,e3,_,k3⟩:=DataW.trod_string underlying9 g2;obtain ⟨b,e4,_⟩:=DataW.trod_bool underlying4 g3;obtain ⟨f,e5,_,_⟩:=DataW.trod_int underlying3 g4;simp only [List.cons.injEq,and_true] at e0 e3 e4 e5;refine ⟨⟨k,n,d,s,b,f⟩,by rw [e0,e1,e2,e3,e4,e5];rfl,k1,k2,?_⟩;unfold maxLen at k3;show s.size<=_
  omega
theorem zHT {f0 f1 f2 f3 f4:Field} (he:prog.underlying 33=some (.struct #[f0,f1,f2,f3,f4])) (o0:f0.offset=0) (t0:f0.type=9) (o1:f1.offset=1) (t1:f1.type=3) (o2:f2.offset=2) (t2:f2.type=3) (o3:f3.offset=3) (t3:f3.type=4) (o4:f4.offset=4) (t4:f4.type=4) {fuel:Nat} {c0 c1 c2 c3 c4:Value} {x:DataW H × List MemPlace} (h:DataW.trod enc prog w base spare held fuel 33 [c0,c1,c2,c3,c4]=some x):∃ a:Wt.Rf,[c0,c1,c2,c3,c4]=rf5 a/\a.s.size<=9223372036854775807:=by
 obtain ⟨xs,q,_,hD,_,hxl,hg⟩:=DataW.trod_struct he h;have hxl:xs.length=5:=hxl;have g0:=hg 0 f0 rfl;rw [o0,t0,zOr] at g0;have g1:=hg 1 f1 rfl;rw [o1,t1,zJn] at g1;have g2:=hg 2 f2 rfl;rw [o2,t2,zJn] at g2;have g3:=hg 3 f3 rfl;rw [o3,t3,zN6] at g3;have g4:=hg 4 f4 rfl;rw [o4,t4,zN6] at g4;match xs,hxl with
 | [x0,x1,x2,x3,x4],_ =>
  simp only [List.drop_zero,List.take_succ_cons,List.take_zero,List.drop_succ_cons,List.getElem?_cons_zero,List.getElem?_cons_succ] at g0 g1 g2 g3 g4;obtain ⟨s,e0,_,k3⟩:=DataW.trod_string underlying9 g0;obtain ⟨r,e1,_,_⟩:=DataW.trod_int underlying3 g1;obtain ⟨c,e2,_,_⟩:=DataW.trod_int underlying3 g2;obtain ⟨fr,e3,_⟩:=DataW.trod_bool underlying4 g3;obtain ⟨fc,e4,_⟩:=DataW.trod_bool underlying4 g4;simp only [List.cons.injEq,and_true] at e0 e1 e2 e3 e4;refine ⟨⟨s,r,c,fr,fc⟩,by rw [e0,e1,e2,e3,e4];rfl,?_⟩;unfold maxLen at k3;show s.size<=_
  omega
theorem zNX {f0 f1 f2 f3 f4 f5 f6:Field} (he:prog.underlying 35=some (.struct #[f0,f1,f2,f3,f4,f5,f6])) (o0:f0.offset=0) (t0:f0.type=3) (o1:f1.offset=1) (t1:f1.type=31) (o2:f2.offset=7) (t2:f2.type=3) (o3:f3.offset=8) (t3:f3.type=9) (o4:f4.offset=9) (t4:f4.type=3) (o5:f5.offset=10) (t5:f5.type=33) (o6:f6.offset=15) (t6:f6.type=33) {fuel:Nat} {cs:List Value} {x:DataW H × List MemPlace} (hl:cs.length=20) (h:DataW.trod enc prog w base spare held fuel 35 cs=some x):∃ y:Wt.Nd,cs=zAG y/\Wt.FitN y:=by
 match cs,hl with
 | [a0,a1,a2,a3,a4,a5,a6,a7,a8,a9,b0,b1,b2,b3,b4,b5,b6,b7,b8,b9],_ =>
  obtain ⟨xs,q,_,hD,_,hxl,hg⟩:=DataW.trod_struct he h;have hxl:xs.length=7:=hxl;have g0:=hg 0 f0 rfl;rw [o0,t0,zJn] at g0;have g1:=hg 1 f1 rfl;rw [o1,t1,zP8] at g1;have g2:=hg 2 f2 rfl;rw [o2,t2,zJn] at g2;have g3:=hg 3 f3 rfl;rw [o3,t3,zOr] at g3;have g4:=hg 4 f4 rfl;rw [o4,t4,zJn] at g4;have g5:=hg 5 f5 rfl;rw [o5,t5,zPT] at g5;have g6:=hg 6 f6 rfl;rw [o6,t6,zPT] at g6;match xs,hxl with
  | [x0,x1,x2,x3,x4,x5,x6],_ =>
   simp only [List.drop_zero,List.take_succ_cons,List.take_zero,List.drop_succ_cons,List.getElem?_cons_zero,List.getElem?_cons_succ] at g0 g1 g2 g3 g4 g5 g6;obtain ⟨k,e0,_,_⟩:=DataW.trod_int underlying3 g0;obtain ⟨v,e1,hv⟩:=zMQ underlying31 rfl rfl rfl rfl rfl rfl rfl rfl rfl rfl g1;obtain ⟨op,e2,_,_⟩:=DataW.trod_int underlying3 g2;obtain ⟨nm,e3,_,k3⟩:=DataW.trod_string underlying9 g3;obtain ⟨ar,e4,_,_⟩:=DataW.trod_int underlying3 g4;obtain ⟨a,e5,ha⟩:=zHT underlying33 rfl rfl rfl rfl rfl rfl rfl rfl rfl rfl g5;obtain ⟨b,e6,hb⟩:=zHT underlying33 rfl rfl rfl rfl rfl rfl rfl rfl rfl rfl g6;unfold vl6 at e1;unfold rf5 at e5 e6;simp only [List.cons.injEq,and_true] at e0 e1 e2 e3 e4 e5 e6;obtain ⟨v0,v1,v2,v3,v4,v5⟩:=e1;obtain ⟨p0,p1,p2,p3,p4⟩:=e5;obtain ⟨q0,q1,q2,q3,q4⟩:=e6;refine ⟨⟨k,v,op,nm,ar,a,b⟩,by rw [e0,v0,v1,v2,v3,v4,v5,e2,e3,e4,p0,p1,p2,p3,p4,q0,q1,q2,q3,q4];rfl,hv,?_,ha,hb⟩;unfold maxLen at k3;show nm.size<=_
   omega
theorem zLt {m:Nat} {p:Nat->Wt.Nd->Prop} (h:∀ i,i<m->∃ v,p i v):∃ G:Nat->Wt.Nd,∀ i,i<m->p i (G i):=by
 classical
 refine ⟨λi=>if hi:i<m then Classical.choose (h i hi) else ⟨0,Wt.v0,0,⟨#[]⟩,0,Wt.r0,Wt.r0⟩,λi hi=>?_⟩;dsimp only;rw [dif_pos hi];exact Classical.choose_spec (h i hi)
theorem zI5 {W:World} {r:Reach} {b0:Nat} {v:Value} {d:DataW H} {p:List MemPlace}
  (hv:Value.okWide prog W r b0 22 v) (h:DataW.Trod enc prog W 0 (λ_=>true) true 22 v d p) :
  ∃ (L:List Wt.Nd) (av:Option Addr) (cap:Nat),v=.slice av L.length cap/\RdN W av L/\(∀ x ∈ L,Wt.FitN x)/\(av=none->L.length=0/\cap=0)/\L.length<=cap/\(∀ ad,av=some ad->0<L.length->ad.block<W.heap.size) /\
   ∀ (ts0:List TypeId) (ds:List (DataW H)) (j:Nat),(DataW.weightsEach prog ts0 ds).all (· <= reachBytes)=true->ts0[j]? = some 22->ds[j]? = some d->L.length * 176<=reachBytes:=by
 obtain ⟨a0,len,cap,rfl⟩:=okWide_slice underlying22 hv;obtain ⟨fuel,hg⟩:=h;rcases open_slice underlying22 hg with ⟨hcs,hx⟩ | ⟨a,len',cap',m,n,D,Pl,hcs,hb,hl,hm,hmm,hx,hall⟩
 ·simp [Value.cells] at hcs;obtain ⟨rfl,rfl,rfl⟩:=hcs;exact ⟨[],none,0,rfl,λi hi=>absurd hi (Nat.not_lt_zero _),(λx hx=>by cases hx),λ_=>⟨rfl,rfl⟩,Nat.le_refl _,(λ_ e=>by cases e),(λ_ _ _ _ _ _=>by simp)⟩
 ·simp [Value.cells] at hcs;obtain ⟨rfl,rfl,rfl⟩:=hcs;simp only [if_true] at hmm;subst hmm;have each:∀ i,i<m->∃ y:Wt.Nd,(∀ j u,(zAG y)[j]? = some u->W.cell? (a.add (i * 20+j))=some u)/\Wt.FitN y:=by
   intro i hi;obtain ⟨cs',h1,h2⟩:=hall i hi;rw [zOk] at h1;obtain ⟨_,hlen,hcell⟩:=World.cells?_some h1;obtain ⟨y,rfl,hy⟩:=zNX underlying35 rfl rfl rfl rfl rfl rfl rfl rfl rfl rfl rfl rfl rfl rfl hlen h2;refine ⟨y,λj u hu=>?_,hy⟩;have hj:j<20:=by
    have:=(List.getElem?_eq_some_iff.1 hu).1;rw [hlen] at this;exact this
   have:=hcell j hj;rw [add_add] at this;rw [this,hu]
  obtain ⟨G,hG⟩:=zLt each;have hlen:((List.range len).map G).length=len:=by simp
  have hsp:0<len->∃ b off,a=⟨b,off,none⟩/\b<W.heap.size:=by
   intro h0;have h1:=(hG 0 (by omega)).1 0 _ rfl;rw [Nat.zero_mul,Nat.zero_add] at h1;have s1:(a.add 0).spot=none:=World.cell?_spot h1;have l1:(a.add 0).block<W.heap.size:=World.block_lt_of_cell? W _ h1;obtain ⟨b,off,spot⟩:=a;obtain rfl:spot=none:=s1;exact ⟨b,off,rfl,l1⟩
  refine ⟨(List.range len).map G,some a,m,by rw [hlen],λi hi=>?_,λx hx=>?_,(λh=>by cases h),by rw [hlen];exact hl,λad e h0=>?_,λts0 ds j hz h1 h2=>?_⟩
  ·rw [hlen] at hi;obtain ⟨b,off,rfl,hbw⟩:=hsp (by omega);refine ⟨b,off,rfl,λj u hu=>?_⟩;have eG:((List.range len).map G)[i]'(by rw [hlen];exact hi)=G i:=by simp
   rw [eG] at hu;have:=(hG i (by omega)).1 j u hu;rw [add_plain] at this;rw [Nat.add_assoc];exact this
  ·obtain ⟨i,hi,rfl⟩:=List.mem_map.1 hx;exact (hG i (by have:=List.mem_range.1 hi;omega)).2
  ·rw [hlen] at h0;obtain ⟨b,off,rfl,hbw⟩:=hsp h0;obtain rfl:=Option.some.inj e;exact hbw
  ·have q:=sized_slice hz h1 (by rw [h2];exact congrArg some (congrArg Prod.fst hx)) underlying22;rw [zPL] at q;simp only [List.length_map,List.length_range] at q;rw [hlen];exact Nat.le_trans (Nat.mul_le_mul_right _ (by omega)) q
end
open Go.ChangeShapes Go.WideShapes Go.ChangeAt Go.RowKit Go.Joins Go.Deep
theorem zPZ:prog.cellsOf 9=1:=by kernel_rfl
theorem zP5:prog.bytesOf 9=16:=by kernel_rfl
section
variable {H:Type} {enc:TypeId × Value->H}
theorem zMf {m:Nat} {p:Nat->ByteArray->Prop} (h:∀ i,i<m->∃ v,p i v):∃ G:Nat->ByteArray,∀ i,i<m->p i (G i):=by
 classical
 refine ⟨λi=>if hi:i<m then Classical.choose (h i hi) else ⟨#[]⟩,λi hi=>?_⟩;dsimp only;rw [dif_pos hi];exact Classical.choose_spec (h i hi)
theorem zJi {W:World} {r:Reach} {b0:Nat} {v:Value} {d:DataW H} {p:List MemPlace}
  (hv:Value.okWide prog W r b0 25 v) (h:DataW.Trod enc prog W 0 (λ_=>true) true 25 v d p) :
  ∃ (L:List ByteArray) (av:Option Addr) (cap:Nat),v=.slice av L.length cap/\RdS W av L/\(av=none->L.length=0/\cap=0)/\L.length<=cap /\
   ∀ (ts0:List TypeId) (ds:List (DataW H)) (j:Nat),(DataW.weightsEach prog ts0 ds).all (· <= reachBytes)=true->ts0[j]? = some 25->ds[j]? = some d->L.length * 16<=reachBytes:=by
 obtain ⟨a0,len,cap,rfl⟩:=okWide_slice underlying25 hv;obtain ⟨fuel,hg⟩:=h;rcases open_slice underlying25 hg with ⟨hcs,hx⟩ | ⟨a,len',cap',m,n,D,Pl,hcs,hb,hl,hm,hmm,hx,hall⟩
 ·simp [Value.cells] at hcs;obtain ⟨rfl,rfl,rfl⟩:=hcs;exact ⟨[],none,0,rfl,λi hi=>absurd hi (Nat.not_lt_zero _),λ_=>⟨rfl,rfl⟩,Nat.le_refl _,(λ_ _ _ _ _ _=>by simp)⟩
 ·simp [Value.cells] at hcs;obtain ⟨rfl,rfl,rfl⟩:=hcs;simp only [if_true] at hmm;subst hmm;have each:∀ i,i<m->∃ y:ByteArray,W.cell? (a.add i)=some (.string y):=by
   intro i hi;obtain ⟨cs',h1,h2⟩:=hall i hi;rw [zPZ] at h1;obtain ⟨_,hlen,hcell⟩:=World.cells?_some h1;obtain ⟨s,e,_,_⟩:=DataW.trod_string underlying9 h2;subst e;have:=hcell 0 (by omega);rw [add_add,Nat.mul_one,Nat.add_zero] at this;exact ⟨s,this⟩
  obtain ⟨G,hG⟩:=zMf each;have hlen:((List.range len).map G).length=len:=by simp
  refine ⟨(List.range len).map G,some a,m,by rw [hlen],λi hi=>?_,(λh=>by cases h),by rw [hlen];exact hl,λts0 ds j hz h1 h2=>?_⟩
  ·rw [hlen] at hi;have h1:=hG i (by omega);have s1:(a.add 0).spot=none:=World.cell?_spot (hG 0 (by omega));obtain ⟨b,off,spot⟩:=a;obtain rfl:spot=none:=s1;refine ⟨b,off,rfl,?_⟩;have eG:((List.range len).map G)[i]'(by rw [hlen];exact hi)=G i:=by simp
   rw [eG];rw [add_plain] at h1;exact h1
  ·have q:=sized_slice hz h1 (by rw [h2];exact congrArg some (congrArg Prod.fst hx)) underlying25;rw [zP5] at q;simp only [List.length_map,List.length_range] at q;rw [hlen];exact Nat.le_trans (Nat.mul_le_mul_right _ (by omega)) q
end
