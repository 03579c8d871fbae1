/- TQPart, TQTie, LRefA, LPlainC, LPlainD. -/
import Derived.Test.YtlggnpohhahdlaaGreatDoorQ41
import Derived.Deep.LoopGhost
set_option maxHeartbeats 1600000
set_option maxRecDepth 100000
namespace Go.Proofs.YtlggnpohhahdlaaGreatDoor
open Go.RowKit Go.Shelf
set_option linter.unusedVariables false
theorem pct_cases (us:List Wlx.TV):(∃ t r,us=t::r∧mkk us 0 [37]=true∧tkOp 6 us=some ((3,[37],6),r)) ∨ (mkk us 0 [37]=false∧tkOp 6 us=none):=by
 cases us with
 | nil=>exact Or.inr ⟨rfl,rfl⟩
 | cons t r =>
  have e0:∀ m,mkk (t::r) 0 m=isMk t m:=fun m=>rfl
  simp only [e0];unfold tkOp isMk;by_cases hk:t.k=5
  ·simp only [hk,beq_self_eq_true,Bool.true_and,if_true];by_cases h1:t.t=[37]
   ·rw [h1];exact Or.inl ⟨t,r,rfl,rfl,by rfl⟩
   ·have g1:(t.t == [37])=false:=by simpa using h1
    refine Or.inr ⟨g1,?_⟩;have e1:([37] == t.t)=false:=by simpa using fun h=>h1 h.symm
    have:Wt.opAs t.t 6=none:=by
     unfold Wt.opAs Wt.opsT;simp [e1]
    rw [this];rfl
  ·have:(t.k == 5)=false:=by simp [hk]
   simp only [if_neg hk,this];exact Or.inr ⟨by simp,trivial⟩
theorem qpart_any (tn lo kp:Nat) (en:Int) (sub7:List Wlx.TV→PR) (n:Nat) (HP:QFn tn lo kp en 96 sub7 n) (hfit:∀ ts row r2,(∀ t ∈ ts,TokOk t)→sub7 ts=.inl (row,r2)→Fits ts.length row r2):QFn tn lo kp en 70 (ppc sub7) n:=by
 intro ts w hn hok h;obtain ⟨hkl,hlo,h1024⟩:=h.lo;have hkw:kp<w.heap.size:=by omega
 have S:=HP ts w hn hok h;have hft:=hfit ts;clear HP h hfit;unfold ppc;cases hs:sub7 ts with
 | inr q =>
  obtain ⟨c,p⟩:=q;rw [hs] at S;clear hft hs;simp only;go_enter Tryz.func70,Tryz.ntmps70;go_wp2_with fail
  refine S.mono ?_;rintro e w1 ⟨hg,hc,v,row,ts2,rfl,own,hl,hR⟩;have M:=qmark_any tn lo kp en w1 _ c p 0 (by omega) [37] hR;have hcd:decide (c=0)=false:=by simpa using hc
  rw [hcd,Bool.false_and] at M;go_wp2_with fail
  go_loopg [3] 0 (fun gk x wr=>x=v∧gk=0∧w1=wr)
  case atStart=>exact ⟨rfl,rfl,rfl⟩
  case round =>
   obtain ⟨rfl,hgk,rfl⟩:=hrel;go_wp2_with fail
   refine M.mono ?_;rintro e w2 ⟨rfl,rfl⟩;go_wp2;go_ret;exact ⟨hg,hc,_,row,ts2,rfl,own,hl,hR⟩
 | inl q =>
  obtain ⟨row0,rest⟩:=q;rw [hs] at S;obtain ⟨-,hf⟩:=hft row0 rest hok hs;clear hft hs;simp only;obtain ⟨RS0,hRS0⟩:∃ q:PR,q=pct rest.length row0 rest:=⟨_,rfl⟩
  rw [←hRS0];have HQ0:Hid (RS0=pct rest.length row0 rest):=hRS0;clear hRS0;go_enter Tryz.func70,Tryz.ntmps70;go_wp2_with fail
  refine S.mono ?_;rintro e w1 ⟨hg1,v1,rfl,own1,hR1⟩;clear S;go_wp2_with fail
  go_loopg [3] rest.length (fun gk x wr=>∃ (row:List Wt.Nd) (us:List Wlx.TV),gk=us.length∧row.length+us.length≤ts.length∧Hid (RS0=pct us.length row us)∧Hid (OwnN wr w.heap.size x row)∧Hid (RS tn lo kp en wr us 0 0)∧Hid (w.grownBy wr (some kp)))
  case atStart=>exact ⟨row0,rest,rfl,hf,HQ0,own1,hR1,hg1⟩
  case round =>
   clear HQ0 own1 hR1 hg1 hf;obtain ⟨row,us,hgk,hf,HQ,HO,HR,HG⟩:=hrel;rcases pct_cases us with ⟨t,r,rfl,hm,ht⟩ | ⟨hm,ht⟩
   ·have M1:=qmark_any tn lo kp en wr _ 0 0 0 (by omega) [37] HR.out;rw [hm] at M1;obtain ⟨a,ha,c1,z1,hR,hG⟩:=rs_pass HR.out;have HQ2:Hid (RS0=pct r.length (opN 4 3::row) r):=by
     show _=_
     rw [HQ.out,pct_step,ht];rfl
    have HR2:Hid (RS tn lo kp en (wr.setCell ⟨kp,1,none⟩ (.int .i64 ((a:Int)+1))) r 0 0):=hR;have HG2:Hid (w.grownBy (wr.setCell ⟨kp,1,none⟩ (.int .i64 ((a:Int)+1))) (some kp)):=grown_trans HG.out hG;have HO2:Hid (OwnN (wr.setCell ⟨kp,1,none⟩ (.int .i64 ((a:Int)+1))) w.heap.size u3 row):=own_grown HO.out hG hkw;have hf2:row.length+r.length+1≤ts.length:=by simp only [List.length_cons] at hf;omega
    clear hR hG HQ HO HR HG hm ht hf;go_wp2_with fail
    refine M1.mono ?_;rintro e w2 ⟨rfl,rfl⟩;clear M1;go_upto_region 4 with fail
    obtain ⟨W,hW⟩:∃ W,wr.setCell ⟨kp,1,none⟩ (.int .i64 ((a:Int)+1))=W:=⟨_,rfl⟩
    rw [hW] at HR2 HG2 HO2 ⊢;have hR:=HR2.out;have hG:=HG2.out;have hO:=HO2.out;have hsW:=hG.size;clear hW HR2 HG2 HO2 c1 z1;go_wp2_with (first
     | ((with_reducible refine wpList_bldO ?_ (.const (.int .i64 4)) (.const (.int .i64 3)) ?_ 4 3 ?_ ?_ ?_);rfl;rfl;rfl;rfl)
     | ((with_reducible refine wpList_bs1n ?_ (.tmp 17) ?_ (opN 4 3) ?_ ?_);rfl;rfl;rfl)
     | (at_builtin;refine wpList_appG (by rfl) (.tmp 16) (.tmp 18) (by rfl) _ w.heap.size (by simp only [World.size_alloc];omega) _ [] (by rfl) (World.ownsRow_nil _ _ _ _) _ _ [opN 4 3] (by rfl) (own_one W (opN 4 3)) (fun _=>by simp) ?_))
    intro va wa rowa owna hga hra hva;have hGa:w.grownBy wa (some kp):=grown_mix (grown_trans hG (World.grownBy_alloc _ _ _)) hga hra;have hRa:=(hR.row (World.grownBy_alloc W _ none) (by simp)).row hga (fun b e=>Nat.le_trans hlo (hra b e));have hsa:=hGa.size;have hOa:OwnN wa w.heap.size u3 row:=own_any (own_any hO (World.grownBy_alloc W _ none) (by simp)) hga (fun b e=>by have:=hva b e;simp [Value.ownBlock] at this);clear hga hra hva hR hG hO;go_wp2_with (at_builtin;refine wpList_appG (by rfl) (.tmp 20) (.tmp 21) (by rfl) wa w.heap.size hsa va [opN 4 3] (by rfl) owna u3 _ row (by rfl) hOa (fun _=>by simp only [List.length_singleton];omega) ?_)
    intro vc wc rowc ownc hgc hrc _;have HGc:Hid (w.grownBy wc (some kp)):=grown_mix hGa hgc hrc;have HRc:Hid (RS tn lo kp en wc r 0 0):=hRa.row hgc (fun b e=>Nat.le_trans hlo (hrc b e));have HOc:Hid (OwnN wc w.heap.size vc (opN 4 3::row)):=ownc;clear owna hOa hGa hRa hgc hrc ownc;go_wp2_with fail
    go_roundg (r.length)
    case rel=>exact ⟨opN 4 3::row,r,rfl,by simp only [List.length_cons];omega,HQ2,HOc,HRc,HGc⟩
    case measure=>simp only [List.length_cons] at hgk;omega
   ·have M1:=qmark_any tn lo kp en wr _ 0 0 0 (by omega) [37] HR.out;rw [hm] at M1;have HQ2:Hid (RS0=.inl (row,us)):=by
     show _=_
     rw [HQ.out,pct_step,ht]
    clear HQ;go_wp2_with fail
    refine M1.mono ?_;rintro e w2 ⟨rfl,rfl⟩;go_wp2;go_ret;rw [HQ2.out];exact ⟨HG.out,_,rfl,HO.out,HR.out⟩
theorem qword_all (tn lo kp:Nat) (en:Int) (sub:List Wlx.TV→PR) (n:Nat) (HL:QLv tn lo kp en 0 sub n) (hsuf:∀ ts row r,sub ts=.inl (row,r)→r <:+ ts) (hfit:∀ ts row r2,(∀ t ∈ ts,TokOk t)→sub ts=.inl (row,r2)→Fits ts.length row r2) (t:Wlx.TV) (r:List Wlx.TV) (w:World) (hn:r.length≤n) (hok:∀ x ∈ t::r,TokOk x) (h:RS tn lo kp en w (t::r) 0 0) :
  Calls Tryz.prog 125 #[.pointer (some ⟨kp,0,none⟩),.string ⟨t.t.toArray⟩] w fun e w'=>QPost tn lo kp en (t::r).length (pword sub en (t::r)) w e w':=by
 have hh:hd (t::r) en=t:=rfl;unfold pword;rw [hh];cases hm0:mkk (t::r) 1 [40] with
 | true =>
  rw [←mkk_fol,hm0,if_pos rfl];cases hf:Wt.fnNm ⟨t.t.toArray⟩ with
  | true =>
   rw [if_pos rfl];obtain ⟨u,r2,rfl⟩:=mkk_two hm0;exact qword_b tn lo kp en w t (u::r2) hok h hm0 hf _ (qcall_any tn lo kp en sub n HL hsuf hfit t u r2 w (by simp only [List.length_cons] at hn;omega) hok h t.t _ rfl) _ rfl
  | false =>
   rw [if_neg (by decide)];exact qword_a tn lo kp en w t r hok h hm0 hf _ rfl
 | false =>
  rw [←mkk_fol,hm0,if_neg (by decide)];cases hm1:mkk (t::r) 1 [33] with
  | true =>
   rw [←mkk_fol,hm1,if_pos rfl];cases hf:Wt.shNm ⟨t.t.toArray⟩ with
   | true=>rw [if_pos rfl];exact qword_s tn lo kp en w t r hok h hm0 hm1 hf _ rfl
   | false=>rw [if_neg (by decide)];exact qword_d tn lo kp en w t r hok h hm0 hm1 hf _ rfl
  | false =>
   rw [←mkk_fol,hm1,if_neg (by decide)];by_cases h1:t.t=[84,82,85,69]
   ·rw [if_pos h1];exact qword_t tn lo kp en w t r hok h hm0 hm1 h1 _ rfl
   ·rw [if_neg h1];by_cases h2:t.t=[70,65,76,83,69]
    ·rw [if_pos h2];exact qword_u tn lo kp en w t r hok h hm0 hm1 h2 _ rfl
    ·rw [if_neg h2];exact qword_c tn lo kp en w t r hok h hm0 hm1 h1 h2 _ rfl
theorem qprime_nil (tn lo kp:Nat) (en:Int) (sub:List Wlx.TV→PR):QFn tn lo kp en 96 (psi en (pword sub en) (pbrack sub en)) 0:=by
 intro ts w hn hok h;obtain rfl:=List.eq_nil_of_length_eq_zero (Nat.le_zero.1 hn);exact qprime_0 tn lo kp en w h
theorem qprime_all (tn lo kp:Nat) (en:Int) (sub:List Wlx.TV→PR) (n:Nat) (HL:QLv tn lo kp en 0 sub n) (hsuf:∀ ts row r,sub ts=.inl (row,r)→r <:+ ts) (hfit:∀ ts row r2,(∀ t ∈ ts,TokOk t)→sub ts=.inl (row,r2)→Fits ts.length row r2):QFn tn lo kp en 96 (psi en (pword sub en) (pbrack sub en)) (n+1):=by
 intro ts w hn hok h;cases ts with
 | nil=>exact qprime_0 tn lo kp en w h
 | cons t r =>
  have hrn:r.length≤n:=by simp only [List.length_cons] at hn;omega
  have hh:hd (t::r) en=t:=rfl;unfold psi;rw [hh];by_cases h3:t.k=3
  ·rw [if_pos h3];exact qprime_w tn lo kp en w t r hok h h3 _ (fun w' hR=>qword_all tn lo kp en sub n HL hsuf hfit t r w' hrn hok hR) _ rfl
  rw [if_neg h3];by_cases h5:t.k=5
  ·rw [if_pos h5];unfold pbrack;cases hm:mkk (t::r) 0 [40] with
   | false =>
    rw [qtk_none hm];exact qprime_z tn lo kp en w t r hok h (by omega) (by omega) h3 (by omega) hm _ rfl
   | true =>
    have htk:tk (t::r) [40]=some r:=by
     obtain ⟨t',r',e,ht⟩:=qtk_some hm;rw [ht,(List.cons.inj e).2]
    rw [htk];simp only;cases hs:sub r with
    | inr q =>
     obtain ⟨c,p⟩:=q;exact qprime_be tn lo kp en w t r hok h h5 hm sub n hrn HL c p hs _ rfl
    | inl q =>
     obtain ⟨row,r2⟩:=q;simp only;cases hm6:mkk r2 0 [41] with
     | false =>
      rw [qtk_none hm6];exact qprime_bn tn lo kp en w t r hok h h5 hm sub n hrn HL row r2 hs hm6 _ rfl
     | true =>
      obtain ⟨t6,r6,e6,ht6⟩:=qtk_some hm6;subst e6;rw [ht6];exact qprime_by tn lo kp en w t r hok h h5 hm sub n hrn HL row t6 r6 hs hm6 _ rfl
  ·rw [if_neg h5];unfold pl litV;rw [hh];by_cases h1:t.k=1
   ·rw [if_pos h1];cases hb:Wnum.oB (Wnum.rdO ⟨t.t.toArray⟩) with
    | true=>rw [if_pos rfl];exact qprime_nt tn lo kp en w t r hok h h1 hb _ rfl
    | false=>rw [if_neg (by decide)];exact qprime_nf tn lo kp en w t r hok h h1 hb _ rfl
   rw [if_neg h1];by_cases h2:t.k=2
   ·rw [if_pos h2];by_cases hl:t.t.length≤256
    ·rw [if_pos hl];exact qprime_xt tn lo kp en w t r hok h h2 hl _ rfl
    ·rw [if_neg hl];exact qprime_xf tn lo kp en w t r hok h h2 hl _ rfl
   rw [if_neg h2];by_cases h4:t.k=4
   ·rw [if_pos h4];exact qprime_f tn lo kp en w t r hok h h4 _ rfl
   ·rw [if_neg h4];have hm:mkk (t::r) 0 [40]=false:=by
     show isMk t [40]=false
     unfold isMk;have:(t.k == 5)=false:=by simpa using h5
     rw [this,Bool.false_and]
    exact qprime_z tn lo kp en w t r hok h h1 h2 h3 h4 hm _ rfl
theorem qlevel_5 (tn lo kp:Nat) (en:Int) (sub:List Wlx.TV→PR) (n:Nat) (HS:QFn tn lo kp en 42 sub n):QLv tn lo kp en 5 sub n:=by
 intro ts w hn hok h;have S:=HS ts w hn hok h;clear HS h;refine qpost_of S (fun S=>?_) (fun e w' q=>q.val);go_enter Tryz.func25,Tryz.ntmps25;go_wp2_with fail
 refine S.mono ?_;rintro e w2 ⟨⟨v,rfl⟩,hQ⟩;go_wp2;go_ret;exact hQ
theorem qsigned_nil (tn lo kp:Nat) (en:Int) (sub5 sub6:List Wlx.TV→PR) (HP:QFn tn lo kp en 70 sub6 0):QFn tn lo kp en 42 (psg sub5 sub6) 0:=by
 intro ts w hn hok h;obtain rfl:=List.eq_nil_of_length_eq_zero (Nat.le_zero.1 hn);exact qsigned_c tn lo kp en sub6 0 HP [] w hn hok h rfl rfl
def QTd (tn lo kp:Nat) (en:Int) (f:Nat):Prop :=
 (∀ k n,k≤5→10 * n+9 - k≤f→QLv tn lo kp en k (lv en f k) n)∧(∀ n,10 * n+4≤f→QFn tn lo kp en 42 (lv en f 5) n)∧(∀ n,10 * n+3≤f→QFn tn lo kp en 70 (lv en f 6) n)∧(∀ n,10 * n+2≤f→QFn tn lo kp en 96 (lv en f 7) n)
theorem qtied (tn lo kp:Nat) (en:Int):∀ f,QTd tn lo kp en f:=by
 intro f;induction f with
 | zero=>exact ⟨fun k n h1 h2=>by omega,fun n h=>by omega,fun n h=>by omega,fun n h=>by omega⟩
 | succ f ih =>
  obtain ⟨i1,i2,i3,i4⟩:=ih;have s2:∀ n,10 * n+4≤f+1→QFn tn lo kp en 42 (lv en (f+1) 5) n:=by
   intro n hn;rw [show lv en (f+1) 5=psg (lv en f 5) (lv en f 6) from funext (lv_sg en f)];cases n with
   | zero=>exact qsigned_nil tn lo kp en _ _ (i3 0 (by omega))
   | succ n=>exact qsigned_any tn lo kp en _ _ n (i2 n (by omega)) (i3 (n+1) (by omega)) (lv_fit en f 5)
  refine ⟨?_,s2,?_,?_⟩
  ·intro k n hk hn;by_cases h5:k=5
   ·subst h5;exact qlevel_5 tn lo kp en _ n (s2 n (by omega))
   ·rw [show lv en (f+1) k=pbt (lv en f (k+1)) k from funext (lv_bt en f k (by omega))];exact qlevel_any tn lo kp en k (by omega) _ n (i1 (k+1) n (by omega) (by omega)) (lv_suf en f (k+1)) (lv_fit en f (k+1))
  ·intro n hn;rw [show lv en (f+1) 6=ppc (lv en f 7) from funext (lv_pc en f)];exact qpart_any tn lo kp en _ n (i4 n (by omega)) (lv_fit en f 7)
  ·intro n hn;rw [show lv en (f+1) 7=psi en (pword (lv en f 0) en) (pbrack (lv en f 0) en) from funext (lv_si en f)];cases n with
   | zero=>exact qprime_nil tn lo kp en _
   | succ n=>exact qprime_all tn lo kp en _ n (i1 0 n (by omega) (by omega)) (lv_suf en f 0) (lv_fit en f 0)
theorem qlevel_lv (tn lo kp:Nat) (en:Int) (n:Nat):QLv tn lo kp en 0 (lv en (10 * n+9) 0) n:=(qtied tn lo kp en _).1 0 n (by omega) (by omega)
open Go.RowKit
theorem rdigit_any (c:UInt8) (w:World):Calls Tryz.prog 63 #[.int .u8 ((c.toNat:Nat):Int)] w fun e w'=>e=.returned (.bool (Wlx.dig c))∧w=w':=by
 unfold Wlx.dig;have hb:=x4_byte_bd c;generalize ((c.toNat:Nat):Int)=r at *;go_enter Tryz.func63,Tryz.ntmps63;by_cases a:48≤r
 ·go_wp2;go_ret;exact ⟨x3_ret_bool (by first | rfl | (simp;done) | (simp;omega)),rfl⟩
 ·go_wp2;go_ret;exact ⟨x3_ret_bool (by first | rfl | (simp;done) | (simp;omega)),rfl⟩
theorem rletter_any (c:UInt8) (w:World):Calls Tryz.prog 66 #[.int .u8 ((c.toNat:Nat):Int)] w fun e w'=>e=.returned (.bool (Wlx.cap c || Wlx.low c))∧w=w':=by
 unfold Wlx.cap Wlx.low;have hb:=x4_byte_bd c;generalize ((c.toNat:Nat):Int)=r at *;have hU:undef=Value.tuple #[]:=rfl;go_enter Tryz.func66,Tryz.ntmps66;by_cases a:65≤r
 ·by_cases b:r≤90
  ·have a3:¬ 97≤r:=by omega
   go_wp2;go_ret;exact ⟨x3_ret_bool (by first | rfl | (simp;done) | (simp;omega)),rfl⟩
  ·by_cases d:97≤r
   ·go_wp2;go_ret;exact ⟨x3_ret_bool (by first | rfl | (simp;done) | (simp;omega)),rfl⟩
   ·go_wp2;go_ret;exact ⟨x3_ret_bool (by first | rfl | (simp;done) | (simp;omega)),rfl⟩
 ·have d:¬ 97≤r:=by omega
  go_wp2;go_ret;exact ⟨x3_ret_bool (by first | rfl | (simp;done) | (simp;omega)),rfl⟩
theorem x4_rdigits_any (b:ByteArray) (q:Nat) (w:World) (hq:q≤b.size) (hs:b.size≤1024):Calls Tryz.prog 64 #[.string b,.int .i64 q] w fun e w'=>e=.returned (.int .i64 ((q+Wlx.runP Wlx.dig (b.data.toList.drop q):Nat):Int))∧w=w':=by
 obtain ⟨R,hR⟩:∃ R,q+Wlx.runP Wlx.dig (b.data.toList.drop q)=R:=⟨_,rfl⟩
 have E0:Hid (R=q+Wlx.runP Wlx.dig (b.data.toList.drop q)):=hR.symm;rw [hR];clear hR;go_enter Tryz.func64,Tryz.ntmps64;go_wp2_with fail
 go_loopg [1] (b.size - q) (fun gk x wr=>∃ j:Nat,x=.int .i64 j∧gk=b.size - j∧j≤b.size∧Hid (R=j+Wlx.runP Wlx.dig (b.data.toList.drop j))∧wr=w)
 case atStart=>exact ⟨q,rfl,rfl,hq,E0,rfl⟩
 case round =>
  obtain ⟨j,rfl,hg,hj,HR,rfl⟩:=hrel;by_cases hlt:j<b.size
  ·have hli:(j:Int)<(b.size:Int):=by omega
   have D:=rdigit_any (b[j]) wr;have hd:=drop_at b j hlt;cases hdg:Wlx.dig (b[j]) with
   | true =>
    have E:Hid (R=(j+1)+Wlx.runP Wlx.dig (b.data.toList.drop (j+1))):=by
     show _=_;rw [HR.out,hd,Wlx.runP_pos hdg];omega
    rw [hdg] at D;clear HR hd hdg;go_wp2_with fail
    refine D.mono ?_;rintro e w1 ⟨rfl,rfl⟩;go_wp2_with fail
    go_roundg (b.size - (j+1))
    case rel=>exact ⟨j+1,by simp,rfl,hlt,E,by first | trivial | rfl⟩
    case measure=>omega
   | false =>
    have E:Hid (R=j):=by show _=_;rw [HR.out,hd,Wlx.runP_neg hdg];rfl
    rw [hdg] at D;clear HR hd hdg;go_wp2_with fail
    refine D.mono ?_;rintro e w1 ⟨rfl,rfl⟩;go_wp2;go_ret;exact ⟨by rw [E.out];rfl,by first | trivial | rfl⟩
  ·have hli:¬ (j:Int)<(b.size:Int):=by omega
   have E:Hid (R=j):=by show _=_;rw [HR.out,drop_end b j hlt];rfl
   clear HR;go_wp2;go_ret;exact ⟨by rw [E.out];rfl,by first | trivial | rfl⟩
theorem rbegins_any (b p:ByteArray) (q:Nat) (w:World) (hq:q≤b.size) (hs:b.size≤1024) (hp:p.size≤100):Calls Tryz.prog 68 #[.string b,.int .i64 q,.string p] w fun e w'=>e=.returned (.bool (Wlx.begins p.data.toList (b.data.toList.drop q)))∧w=w':=by
 have E:Hid (Wlx.begins p.data.toList (b.data.toList.drop q)=(decide (p.size≤b.size - q) && ((b.extract q (q+p.size)).toList == p.toList))):=by
  show _=_
  rw [begins_take,Lib.extract_toList,Lib.toList_data,List.length_drop,Nat.add_sub_cancel_left];rfl
 by_cases h:p.size≤b.size - q
 ·have E2:Hid (Wlx.begins p.data.toList (b.data.toList.drop q)=((b.extract q (q+p.size)).toList == p.toList)):=by
   show _=_;rw [E.out,decide_eq_true h];rfl
  clear E;have h1:(p.size:Int)≤(b.size:Int) - (q:Int):=by omega
  have h2:(q:Int)≤(q:Int)+(p.size:Int):=by omega
  have h3:(q:Int)+(p.size:Int)≤(b.size:Int):=by omega
  generalize Wlx.begins p.data.toList (b.data.toList.drop q)=r at *;go_enter Tryz.func68,Tryz.ntmps68;go_wp2;go_ret;exact ⟨by rw [E2.out];rfl,rfl⟩
 ·have E2:Hid (Wlx.begins p.data.toList (b.data.toList.drop q)=false):=by
   show _=_;rw [E.out,decide_eq_false h];rfl
  clear E;have h1:¬ (p.size:Int)≤(b.size:Int) - (q:Int):=by omega
  generalize Wlx.begins p.data.toList (b.data.toList.drop q)=r at *;go_enter Tryz.func68,Tryz.ntmps68;go_wp2;go_ret;exact ⟨by rw [E2.out];rfl,rfl⟩
theorem rfaults_any (w:World):Calls Tryz.prog 67 #[] w fun e w'=>e=.returned (.slice (some ⟨w.heap.size,0,none⟩) 8 8)∧w'=w.alloc (.cells (strs Wlx.faults).toArray 9):=by
 go_enter Tryz.func67,Tryz.ntmps67;go_wp2;go_ret;exact ⟨rfl,rfl⟩
end Go.Proofs.YtlggnpohhahdlaaGreatDoor
namespace Wlx
def mk (c:UInt8):Bool:=marks.any fun n=>n.head? == some c
theorem numSz_pos {c:UInt8} {t:List UInt8}:0<numSz (c::t) ↔ dig c=true:=by
 unfold numSz;cases h:dig c with
 | false=>rw [runP_neg h,if_pos rfl];simp
 | true =>
  rw [runP_pos h,if_neg (by omega)];have g:∀ n l,0<n→0<numTl n l:=by
   intro n l hn;cases l with
   | nil=>exact hn
   | cons c t=>rw [numTl_cons];split <;> omega
  simp [g]
theorem txtSz_pos {c:UInt8} {t:List UInt8} (h:0<txtSz (c::t)):c=34:=by
 have e:txtSz (c::t)=if c=34 then quo true 1 t else 0:=rfl
 rw [e] at h;by_cases hc:c=34
 ·exact hc
 ·rw [if_neg hc] at h;omega
theorem wrdSz_pos {c:UInt8} {t:List UInt8}:0<runP wrd (c::t) ↔ wrd c=true:=by
 cases h:wrd c with
 | false=>rw [runP_neg h];simp
 | true=>rw [runP_pos h];simp
theorem nameSz_head {c:UInt8} {t:List UInt8}:∀ (ns:List (List UInt8)),0<nameSz (c::t) ns→∃ n ∈ ns,n.head? = some c
 | [],h=>by simp [nameSz] at h
 | n::r,h=>by
  unfold nameSz at h;by_cases hb:begins n (c::t)=true
  ·rw [if_pos hb] at h;cases n with
   | nil=>simp at h
   | cons a p =>
    simp only [begins,Bool.and_eq_true,decide_eq_true_eq] at hb;exact ⟨a::p,by simp,by rw [hb.1];rfl⟩
  ·rw [if_neg hb] at h;obtain ⟨x,hx,hh⟩:=nameSz_head r h;exact ⟨x,by simp [hx],hh⟩
theorem faultSz_pos {c:UInt8} {t:List UInt8} (h:0<nameSz (c::t) faults):c=35:=by
 obtain ⟨n,hn,hh⟩:=nameSz_head faults h;have:∀ n ∈ faults,n.head? = some 35:=by decide
 rw [this n hn] at hh;exact (Option.some.inj hh).symm
theorem markSz_pos {c:UInt8} {t:List UInt8} (h:0<nameSz (c::t) marks):mk c=true:=by
 obtain ⟨n,hn,hh⟩:=nameSz_head marks h;unfold mk;exact List.any_eq_true.2 ⟨n,hn,by rw [hh];simp⟩
theorem sz1 (l:List UInt8):sz 1 l=numSz l:=rfl
theorem sz2 (l:List UInt8):sz 2 l=txtSz l:=rfl
theorem sz3 (l:List UInt8):sz 3 l=runP wrd l:=rfl
theorem sz4 (l:List UInt8):sz 4 l=nameSz l faults:=rfl
theorem sz5 (l:List UInt8):sz 5 l=nameSz l marks:=rfl
theorem cls:∀ c:UInt8,(wrd c=true→¬ c=34∧¬ c=35∧mk c=false∧¬ c=32∧¬ c=46)∧(dig c=true→wrd c=true)∧(mk c=true→¬ c=34∧¬ c=35∧wrd c=false∧¬ c=32∧¬ c=46):=by
 intro c;have key:∀ n:Fin 256,(wrd (UInt8.ofNat n)=true→¬ UInt8.ofNat n=34∧¬ UInt8.ofNat n=35∧mk (UInt8.ofNat n)=false∧¬ UInt8.ofNat n=32∧¬ UInt8.ofNat n=46)∧(dig (UInt8.ofNat n)=true→wrd (UInt8.ofNat n)=true)∧(mk (UInt8.ofNat n)=true→¬ UInt8.ofNat n=34∧¬ UInt8.ofNat n=35∧wrd (UInt8.ofNat n)=false∧¬ UInt8.ofNat n=32∧¬ UInt8.ofNat n=46):=by decide +kernel
 have:=key ⟨c.toNat,c.toNat_lt⟩;simpa using this
theorem kind_of {c:UInt8} {t:List UInt8} {k:Nat} (hk:hit (c::t)=k) (h6:¬ k=6) :
  (k=1∧dig c=true ∨ k=2∧c=34 ∨ k=3∧wrd c=true∧dig c=false ∨ k=4∧c=35 ∨ k=5∧mk c=true):=by
 have hp:=hit_pos (l:=c::t) (by rw [hk];exact h6);have h1:=hit_low (c::t);have h2:=hit_high (c::t);rw [hk] at hp h1 h2;have:k=1 ∨ k=2 ∨ k=3 ∨ k=4 ∨ k=5:=by omega
 rcases this with rfl | rfl | rfl | rfl | rfl
 ·exact Or.inl ⟨rfl,numSz_pos.1 hp⟩
 ·exact Or.inr (Or.inl ⟨rfl,txtSz_pos hp⟩)
 ·refine Or.inr (Or.inr (Or.inl ⟨rfl,wrdSz_pos.1 hp,?_⟩));cases hd:dig c with
  | false=>rfl
  | true =>
   have:hit (c::t)=1:=hit_first (by omega) (by omega) (numSz_pos.2 hd) (fun j a b=>by omega);rw [this] at hk;omega
 ·exact Or.inr (Or.inr (Or.inr (Or.inl ⟨rfl,faultSz_pos hp⟩)))
 ·exact Or.inr (Or.inr (Or.inr (Or.inr ⟨rfl,markSz_pos hp⟩)))
theorem hit_of {c:UInt8} {t:List UInt8} {k:Nat} (h:k=1∧dig c=true ∨ k=2∧c=34 ∨ k=3∧wrd c=true∧dig c=false ∨ k=4∧c=35 ∨ k=5∧mk c=true) (hp:0<sz k (c::t)):hit (c::t)=k:=by
 obtain ⟨c1,c2,c3⟩:=cls c;have z1:dig c=false→sz 1 (c::t)=0:=fun hd=>by
  have:¬ 0<numSz (c::t):=fun h=>by rw [numSz_pos.1 h] at hd;cases hd
  rw [sz1];omega
 have z2:¬ c=34→sz 2 (c::t)=0:=fun hd=>by
  have:¬ 0<txtSz (c::t):=fun h=>hd (txtSz_pos h)
  rw [sz2];omega
 have z3:wrd c=false→sz 3 (c::t)=0:=fun hd=>by
  have:¬ 0<runP wrd (c::t):=fun h=>by rw [wrdSz_pos.1 h] at hd;cases hd
  rw [sz3];omega
 have z4:¬ c=35→sz 4 (c::t)=0:=fun hd=>by
  have:¬ 0<nameSz (c::t) faults:=fun h=>hd (faultSz_pos h)
  rw [sz4];omega
 have nd:wrd c=false→dig c=false:=fun h=>by
  cases hd:dig c with
  | false=>rfl
  | true=>rw [c2 hd] at h;cases h
 rcases h with ⟨rfl,hd⟩ | ⟨rfl,rfl⟩ | ⟨rfl,hw,hd⟩ | ⟨rfl,rfl⟩ | ⟨rfl,hm⟩
 ·exact hit_first (by omega) (by omega) hp (fun j a b=>by omega)
 ·exact hit_first (by omega) (by omega) hp (fun j a b=>by
   obtain rfl:j=1:=by omega
   exact z1 (by decide))
 ·obtain ⟨a1,a2,a3,a4,a5⟩:=c1 hw;exact hit_first (by omega) (by omega) hp (fun j a b=>by
   have:j=1 ∨ j=2:=by omega
   rcases this with rfl | rfl
   ·exact z1 hd
   ·exact z2 a1)
 ·exact hit_first (by omega) (by omega) hp (fun j a b=>by
   have:j=1 ∨ j=2 ∨ j=3:=by omega
   rcases this with rfl | rfl | rfl
   ·exact z1 (by decide)
   ·exact z2 (by decide)
   ·exact z3 (by decide))
 ·obtain ⟨a1,a2,a3,a4,a5⟩:=c3 hm;exact hit_first (by omega) (by omega) hp (fun j a b=>by
   have:j=1 ∨ j=2 ∨ j=3 ∨ j=4:=by omega
   rcases this with rfl | rfl | rfl | rfl
   ·exact z1 (nd a3)
   ·exact z2 a1
   ·exact z3 a3
   ·exact z4 a2)
end Wlx
namespace Wlx
theorem begins_iff:∀ (p l:List UInt8),begins p l=true ↔ ∃ s,l=p++s
 | [],l=>⟨fun _=>⟨l,rfl⟩,fun _=>rfl⟩
 | a::p,[]=>⟨fun h=>by simp [begins] at h,fun ⟨s,h⟩=>by simp at h⟩
 | a::p,b::t=>by
  simp only [begins,Bool.and_eq_true,decide_eq_true_eq,begins_iff p t];constructor
  ·rintro ⟨rfl,s,rfl⟩;exact ⟨s,rfl⟩
  ·rintro ⟨s,h⟩;simp only [List.cons_append,List.cons.injEq] at h;exact ⟨h.1.symm,s,h.2⟩
theorem runP_app (p:UInt8→Bool) (u r:List UInt8):runP p (u++r)=if runP p u<u.length then runP p u else u.length+runP p r:=by
 induction u with
 | nil=>simp
 | cons c t ih =>
  cases h:p c with
  | false=>rw [List.cons_append,runP_neg h,runP_neg h,if_pos (by simp)]
  | true =>
   rw [List.cons_append,runP_pos h,runP_pos h,ih];simp only [List.length_cons];split <;> split <;> omega
def Nx (k:Nat) (r' r:List UInt8):Prop:=(r.head? = r'.head? ∨ r.head? = none ∨ r.head? = some 32 ∨ ∃ d,r.head? = some d∧(d=40 ∨ d=41 ∨ d=44))∧(k=1→¬ r.head? = some 46)
theorem runP_zero {p:UInt8→Bool} {r:List UInt8}:runP p r=0 ↔ ∀ c,r.head? = some c→p c=false:=by
 cases r with
 | nil=>simp [runP]
 | cons c t =>
  cases h:p c with
  | false=>rw [runP_neg h];simp [h]
  | true=>rw [runP_pos h];simp [h]
theorem runP_nx {p:UInt8→Bool} (h32:p 32=false∧p 40=false∧p 41=false∧p 44=false) {k:Nat} {r' r:List UInt8} (h:Nx k r' r) (h0:runP p r'=0):runP p r=0:=by
 rw [runP_zero] at h0 ⊢;intro c hc;rcases h.1 with e | e | e | ⟨d,e,hd⟩
 ·exact h0 c (by rw [←e];exact hc)
 ·rw [e] at hc;cases hc
 ·rw [e] at hc;cases hc;exact h32.1
 ·rw [e] at hc;cases hc
  rcases hd with rfl | rfl | rfl
  ·exact h32.2.1
  ·exact h32.2.2.1
  ·exact h32.2.2.2
theorem num_ctx {u r' r:List UInt8} (h0:0<u.length) (h:numSz (u++r')=u.length) (hx:Nx 1 r' r):numSz (u++r)=u.length:=by
 have key:∀ r,numSz (u++r)=if runP dig u<u.length then (if runP dig u=0 then 0 else numTl (runP dig u) (u.drop (runP dig u)++r)) else numTl (u.length+runP dig r) (r.drop (runP dig r)):=by
  intro r;unfold numSz;rw [runP_app];by_cases ha:runP dig u<u.length
  ·rw [if_pos ha,if_pos ha];rw [List.drop_append_of_le_length (by omega)]
  ·rw [if_neg ha,if_neg ha,if_neg (by omega)];congr 1
   rw [List.drop_append,List.drop_eq_nil_of_le (by omega),List.nil_append,Nat.add_sub_cancel_left]
 rw [key] at h ⊢;have hle:=runP_le dig u;by_cases ha:runP dig u<u.length
 ·rw [if_pos ha] at h ⊢;by_cases hz:runP dig u=0
  ·rw [if_pos hz] at h;omega
  ·rw [if_neg hz] at h ⊢;cases hd:u.drop (runP dig u) with
   | nil =>
    have:=congrArg List.length hd;simp only [List.length_drop,List.length_nil] at this;omega
   | cons x y =>
    have hy:runP dig u+1+y.length=u.length:=by
     have:=congrArg List.length hd;simp only [List.length_drop,List.length_cons] at this;omega
    rw [hd,List.cons_append,numTl_cons] at h;rw [List.cons_append,numTl_cons];by_cases hc:x=46∧0<runP dig (y++r')
    ·rw [if_pos hc] at h;have e:runP dig (y++r')=y.length:=by omega
     rw [runP_app] at e;have hyl:=runP_le dig y;by_cases hb:runP dig y<y.length
     ·rw [if_pos hb] at e;omega
     ·rw [if_neg hb] at e;have e2:runP dig (y++r)=y.length:=by rw [runP_app,if_neg hb,runP_nx (by decide) hx (by omega)];rfl
      have hpos:0<y.length:=by have:=hc.2;rw [runP_app,if_neg hb] at this;omega
      rw [e2,if_pos ⟨hc.1,hpos⟩];omega
    ·rw [if_neg hc] at h;omega
 ·rw [if_neg ha] at h ⊢;have hr:runP dig r'=0:=by
   have g:∀ n l,n≤numTl n l:=by
    intro n l;cases l with
    | nil=>exact Nat.le_refl _
    | cons c t=>rw [numTl_cons];split <;> omega
   have:=g (u.length+runP dig r') (r'.drop (runP dig r'));omega
  have hr2:=runP_nx (by decide) hx hr;rw [hr2];show numTl (u.length+0) r=_
  cases r with
  | nil=>rfl
  | cons x y =>
   rw [numTl_cons,if_neg (fun hh=>hx.2 rfl (by rw [hh.1];rfl))];rfl
theorem wrd_ctx {u r' r:List UInt8} (h:runP wrd (u++r')=u.length) (hx:Nx 3 r' r):runP wrd (u++r)=u.length:=by
 rw [runP_app] at h ⊢;by_cases ha:runP wrd u<u.length
 ·rw [if_pos ha] at h;omega
 ·rw [if_neg ha] at h ⊢;rw [runP_nx (by decide) hx (by omega)];rfl
theorem quo_hit (w:Bool) (i:Nat) (t:List UInt8):quo w i (34::t)=quo (!w) (i+1) t:=by
 conv=>lhs;unfold quo
 rw [if_pos rfl]
theorem quo_in {c:UInt8} (h:¬ c=34) (i:Nat) (t:List UInt8):quo true i (c::t)=quo true (i+1) t:=by
 conv=>lhs;unfold quo
 rw [if_neg h,if_pos rfl]
theorem quo_out {c:UInt8} (h:¬ c=34) (i:Nat) (t:List UInt8):quo false i (c::t)=i:=by
 conv=>lhs;unfold quo
 rw [if_neg h,if_neg (by decide)]
theorem quo_more:∀ (l:List UInt8) (i:Nat),(quo true i l=0 ∨ i+1≤quo true i l)∧(quo false i l=0 ∨ i≤quo false i l):=by
 intro l;induction l with
 | nil=>intro i;exact ⟨Or.inl rfl,Or.inr (Nat.le_refl _)⟩
 | cons c t ih =>
  intro i;obtain ⟨h1,h2⟩:=ih (i+1);by_cases hc:c=34
  ·subst hc;rw [quo_hit,quo_hit];exact ⟨h2,h1.imp id (fun h=>Nat.le_of_succ_le (Nat.le_of_succ_le h))⟩
  ·rw [quo_in hc,quo_out hc];exact ⟨h1.imp id (fun h=>Nat.le_of_succ_le h),Or.inr (Nat.le_refl _)⟩
theorem quo_stop {i:Nat} (hi:1≤i) {w:Bool} {r:List UInt8} (h:quo w i r=i):w=false∧¬ r.head? = some 34:=by
 cases w with
 | true=>rcases (quo_more r i).1 with h1 | h1 <;> omega
 | false =>
  refine ⟨rfl,fun hh=>?_⟩;cases r with
  | nil=>cases hh
  | cons c t =>
   obtain rfl:c=34:=Option.some.inj hh;rw [quo_hit] at h;rcases (quo_more t (i+1)).1 with h1 | h1
   ·rw [show (!false)=true from rfl,h1] at h;omega
   ·rw [show (!false)=true from rfl] at h;omega
theorem quo_ctx:∀ (a:List UInt8) (w:Bool) (i:Nat) (r' r:List UInt8),1≤i→quo w i (a++r')=i+a.length→Nx 2 r' r→quo w i (a++r)=i+a.length
 | [],w,i,r',r,hi,h,hx=>by
  obtain ⟨rfl,hh⟩:=quo_stop hi (w:=w) (r:=r') h;show quo false i r=i
  cases r with
  | nil=>rfl
  | cons c t =>
   refine quo_out (fun e=>?_) i t;subst e;rcases hx.1 with e | e | e | ⟨d,e,hd⟩
   ·exact hh e.symm
   ·cases e
   ·exact absurd (Option.some.inj e) (by decide)
   ·obtain rfl:=Option.some.inj e;exact absurd hd (by decide)
 | c::a,w,i,r',r,hi,h,hx=>by
  rw [List.cons_append,List.length_cons] at *;by_cases hc:c=34
  ·subst hc;rw [quo_hit] at h ⊢;rw [quo_ctx a (!w) (i+1) r' r (by omega) (by omega) hx];omega
  ·cases w with
   | true =>
    rw [quo_in hc] at h ⊢;rw [quo_ctx a true (i+1) r' r (by omega) (by omega) hx];omega
   | false=>rw [quo_out hc] at h;omega
theorem txt_ctx {u r' r:List UInt8} (h0:0<u.length) (h:txtSz (u++r')=u.length) (hx:Nx 2 r' r):txtSz (u++r)=u.length:=by
 cases u with
 | nil=>simp at h0
 | cons c t =>
  have e:∀ s,txtSz (c::t++s)=if c=34 then quo true 1 (t++s) else 0:=fun s=>rfl
  rw [e] at h ⊢;by_cases hc:c=34
  ·rw [if_pos hc] at h ⊢;simp only [List.length_cons] at h ⊢;rw [quo_ctx t true 1 r' r (by omega) (by omega) hx];omega
  ·rw [if_neg hc] at h;simp at h
theorem name_ctx {u r' r:List UInt8} {k:Nat} (h0:0<u.length) (hx:Nx k r' r):∀ (ms:List (List UInt8)),(∀ n ∈ ms,(¬ 32 ∈ n∧∀ x ∈ n.drop 1,¬ (x=40 ∨ x=41 ∨ x=44))∧(begins u n=true→n.length≤u.length+1))→nameSz (u++r') ms=u.length→nameSz (u++r) ms=u.length
 | [],_,h=>by simp [nameSz] at h;omega
 | n::ms,hg,h=>by
  unfold nameSz at h ⊢;cases hb:begins n (u++r') with
  | true =>
   rw [hb,if_pos rfl] at h;obtain ⟨s,hs⟩:=(begins_iff _ _).1 hb;have hnu:n=u:=by
    have:=List.append_inj hs h.symm;exact this.1.symm
   subst hnu;rw [if_pos ((begins_iff _ _).2 ⟨r,rfl⟩)]
  | false =>
   rw [hb,if_neg (by decide)] at h;have hf:begins n (u++r)=false:=by
    cases hq:begins n (u++r) with
    | false=>rfl
    | true =>
     exfalso
     obtain ⟨s,hs⟩:=(begins_iff _ _).1 hq;by_cases hl:n.length≤u.length
     ·have hu:u=n++u.drop n.length:=by
       have e1:=congrArg (List.take n.length) hs;rw [List.take_append_of_le_length hl,List.take_left] at e1;conv=>lhs;rw [←List.take_append_drop n.length u,e1]
      have:begins n (u++r')=true:=(begins_iff _ _).2 ⟨u.drop n.length++r',by rw [←List.append_assoc,←hu]⟩;rw [this] at hb;cases hb
     ·have hu:n=u++n.drop u.length:=by
       have e1:=congrArg (List.take u.length) hs;rw [List.take_left,List.take_append_of_le_length (by omega)] at e1;conv=>lhs;rw [←List.take_append_drop u.length n,←e1]
      obtain ⟨g1,g2⟩:=hg n (by simp);have hn1:=g2 ((begins_iff _ _).2 ⟨_,hu⟩);cases hd:n.drop u.length with
      | nil =>
       have:=congrArg List.length hd;simp only [List.length_drop,List.length_nil] at this;omega
      | cons x y =>
       have hy:y=[]:=by
        have:=congrArg List.length hd;simp only [List.length_drop,List.length_cons] at this;exact List.eq_nil_of_length_eq_zero (by omega)
       subst hy;rw [hd] at hu;rw [hu,List.append_assoc] at hs;have hr:=List.append_cancel_left hs;have hrh:r.head? = some x:=by rw [hr];rfl
       have hx32:¬ x=32:=fun e=>g1.1 (by rw [hu,e];simp)
       rcases hx.1 with e | e | e | ⟨d,e,hd⟩
       ·rw [hrh] at e;cases r' with
        | nil=>cases e
        | cons x' y' =>
         obtain rfl:x=x':=Option.some.inj e;have:begins n (u++x::y')=true:=(begins_iff _ _).2 ⟨y',by rw [hu,List.append_assoc];rfl⟩;rw [this] at hb;cases hb
       ·rw [hrh] at e;cases e
       ·rw [hrh] at e;exact hx32 (Option.some.inj e)
       ·rw [hrh] at e;obtain rfl:=Option.some.inj e;refine g1.2 x ?_ hd;rw [hu,List.drop_append_of_le_length (by omega)];simp
   rw [hf,if_neg (by decide)];exact name_ctx h0 hx ms (fun n hn=>hg n (by simp [hn])) h
theorem name_mem {u r':List UInt8} (h0:0<u.length):∀ (ms:List (List UInt8)),nameSz (u++r') ms=u.length→u ∈ ms
 | [],h=>by simp [nameSz] at h;omega
 | n::ms,h=>by
  unfold nameSz at h;cases hb:begins n (u++r') with
  | true =>
   rw [hb,if_pos rfl] at h;obtain ⟨s,hs⟩:=(begins_iff _ _).1 hb;rw [(List.append_inj hs h.symm).1];simp
  | false =>
   rw [hb,if_neg (by decide)] at h;exact List.mem_cons_of_mem _ (name_mem h0 ms h)
theorem faults_good:∀ u ∈ faults,∀ n ∈ faults,(¬ 32 ∈ n∧∀ x ∈ n.drop 1,¬ (x=40 ∨ x=41 ∨ x=44))∧(begins u n=true→n.length≤u.length+1):=by decide
theorem marks_good:∀ u ∈ marks,∀ n ∈ marks,(¬ 32 ∈ n∧∀ x ∈ n.drop 1,¬ (x=40 ∨ x=41 ∨ x=44))∧(begins u n=true→n.length≤u.length+1):=by decide
theorem ctx {u r' r:List UInt8} {k:Nat} (hk:hit (u++r')=k) (h6:¬ k=6) (hn:sz k (u++r')=u.length) (hx:Nx k r' r):hit (u++r)=k∧sz k (u++r)=u.length:=by
 have hp:=hit_pos (l:=u++r') (by rw [hk];exact h6);rw [hk,hn] at hp;have hs:sz k (u++r)=u.length:=by
  have h1:=hit_low (u++r');have h2:=hit_high (u++r');rw [hk] at h1 h2;have:k=1 ∨ k=2 ∨ k=3 ∨ k=4 ∨ k=5:=by omega
  rcases this with rfl | rfl | rfl | rfl | rfl
  ·exact num_ctx hp hn hx
  ·exact txt_ctx hp hn hx
  ·exact wrd_ctx hn hx
  ·exact name_ctx hp hx faults (faults_good u (name_mem hp faults hn)) hn
  ·exact name_ctx hp hx marks (marks_good u (name_mem hp marks hn)) hn
 refine ⟨?_,hs⟩;cases u with
 | nil=>simp at hp
 | cons c t=>exact hit_of (kind_of hk h6) (Nat.lt_of_lt_of_eq hp hs.symm)
end Wlx
