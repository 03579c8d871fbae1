/- TRefB, TRefC. -/
import Derived.Test.YtlggnpohhahdlaaGreatDoorQ29
import Derived.BigQuiet
set_option maxHeartbeats 4000000
set_option maxRecDepth 100000
namespace Go.Proofs.YtlggnpohhahdlaaGreatDoor
open Go.RowKit
set_option linter.unusedVariables false
def latB (small:Bool) (c:UInt8):Bool:=Wlx.cap c || (small && Wlx.low c)
theorem latB_fn:latB false=Wlx.cap:=by funext c;simp [latB]
theorem latB_sh:latB true=Wt.ltr:=by funext c;simp [latB,Wt.ltr]
def latR (small:Bool) (j:Nat) (l:List UInt8):Bool:=(decide (0<j) || latB small (l.headD 0) || l.isEmpty) && l.all (fun c=>latB small c || Wlx.dig c)
theorem latR_succ (small:Bool) (j:Nat) (l:List UInt8):latR small (j+1) l=l.all (fun c=>latB small c || Wlx.dig c):=by simp [latR]
theorem isNm_latR (small:Bool) (l:List UInt8) (h0:1≤l.length) (h1:l.length≤16):Wt.isNm (latB small) l=latR small 0 l:=by
 unfold Wt.isNm latR;cases l with
 | nil=>simp at h0
 | cons c r=>rw [decide_eq_true h0,decide_eq_true h1];simp
theorem latR_cons (small:Bool) (j:Nat) (c:UInt8) (r:List UInt8):latR small j (c::r)=((latB small c || (decide (0<j) && Wlx.dig c)) && latR small (j+1) r):=by
 rw [latR_succ];unfold latR;simp only [List.headD_cons,List.isEmpty_cons,List.all_cons,Bool.or_false];cases decide (0<j) <;> cases latB small c <;> cases Wlx.dig c <;> simp
theorem latin_any (small:Bool) (b:ByteArray) (w:World) (hs:b.size≤9223372036854775807) :
  Calls Tryz.prog 88 #[.string b,.bool small] w fun e w'=>e=.returned (.bool (Wt.isNm (latB small) b.data.toList))∧w=w':=by
 have hl:b.data.toList.length=b.size:=rfl;by_cases h1:(b.size:Int)<1
 ·have E:Hid (Wt.isNm (latB small) b.data.toList=false):=by
   show _=_
   unfold Wt.isNm;rw [hl,decide_eq_false (by omega)];simp
  rw [E.out];clear E;go_enter Tryz.func88,Tryz.ntmps88;go_wp2;go_ret;exact ⟨rfl,rfl⟩
 by_cases h16:(16:Int)<(b.size:Int)
 ·have E:Hid (Wt.isNm (latB small) b.data.toList=false):=by
   show _=_
   unfold Wt.isNm;rw [hl,decide_eq_false (p:=b.size≤16) (by omega)];simp
  rw [E.out];clear E;go_enter Tryz.func88,Tryz.ntmps88;go_wp2;go_ret;exact ⟨rfl,rfl⟩
 obtain ⟨R,hR⟩:∃ R,Wt.isNm (latB small) b.data.toList=R:=⟨_,rfl⟩
 have E0:Hid (R=latR small 0 (b.data.toList.drop 0)):=by
  show _=_
  rw [←hR,List.drop_zero];exact isNm_latR small _ (by omega) (by omega)
 rw [hR];clear hR;go_enter Tryz.func88,Tryz.ntmps88;go_wp2_with fail
 go_loopg [5] (b.size) (fun gk x wr=>∃ j:Nat,x=.int .i64 j∧gk=b.size - j∧j≤b.size∧Hid (R=latR small j (b.data.toList.drop j))∧wr=w)
 case atStart=>exact ⟨0,rfl,rfl,Nat.zero_le _,E0,rfl⟩
 case round =>
  clear E0;obtain ⟨j,rfl,hg,hj,HR,rfl⟩:=hrel;by_cases hlt:j<b.size
  ·have hli:(j:Int)<(b.size:Int):=by omega
   have hd:=drop_at b j hlt;have HR2:Hid (R=((latB small (b[j]) || (decide (0<j) && Wlx.dig (b[j]))) && latR small (j+1) (b.data.toList.drop (j+1)))):=by show _=_;rw [HR.out,hd,latR_cons]
   clear HR hd;obtain ⟨T,hT⟩:∃ T,latR small (j+1) (b.data.toList.drop (j+1))=T:=⟨_,rfl⟩
   have HT:Hid (T=latR small (j+1) (b.data.toList.drop (j+1))):=hT.symm;rw [hT] at HR2;clear hT;unfold latB Wlx.cap Wlx.low Wlx.dig at HR2;by_cases a1:65≤((b[j]).toNat:Int) <;> by_cases a2:((b[j]).toNat:Int)≤90 <;> by_cases a3:97≤((b[j]).toNat:Int) <;> by_cases a4:((b[j]).toNat:Int)≤122 <;> by_cases a5:48≤((b[j]).toNat:Int) <;> by_cases a6:((b[j]).toNat:Int)≤57
   any_goals (exfalso;omega)
   all_goals by_cases j0:(0:Int)<(j:Int)
   all_goals have j0':decide (0<j)=decide ((0:Int)<(j:Int)):=by rw [decide_eq_decide];omega
   all_goals rw [j0'] at HR2
   all_goals clear j0'
   all_goals cases small
   all_goals first
    | (
      have E:Hid (R=false):=by (show _=_;rw [HR2.out];simp only [a1,a2,a3,a4,a5,a6,j0,decide_true,decide_false,Bool.true_and,Bool.false_and,Bool.and_true,Bool.and_false,Bool.or_false,Bool.or_true])
      clear HR2 HT;go_wp2;go_ret;exact ⟨by rw [E.out];rfl,rfl⟩)
    | (
      have E:Hid (R=T):=by (show _=_;rw [HR2.out];simp only [a1,a2,a3,a4,a5,a6,j0,decide_true,decide_false,Bool.true_and,Bool.and_true,Bool.and_false,Bool.or_false,Bool.or_true])
      clear HR2;go_wp2_with fail
      go_roundg (b.size - (j+1))
      case rel=>exact ⟨j+1,by simp,rfl,hlt,E.out.trans HT.out,by first | trivial | rfl⟩
      case measure=>omega)
  ·have hli:¬ (j:Int)<(b.size:Int):=by omega
   have E:Hid (R=true):=by
    show _=_
    rw [HR.out,drop_end b j hlt];simp [latR]
   clear HR;go_wp2;go_ret;exact ⟨by rw [E.out];rfl,rfl⟩
theorem fnNm_any (b:ByteArray) (w:World) (hs:b.size≤9223372036854775807):Calls Tryz.prog 88 #[.string b,.bool false] w fun e w'=>e=.returned (.bool (Wt.fnNm b))∧w=w':=by
 have h:=latin_any false b w hs;rw [latB_fn] at h;exact h
theorem shNm_any (b:ByteArray) (w:World) (hs:b.size≤9223372036854775807):Calls Tryz.prog 88 #[.string b,.bool true] w fun e w'=>e=.returned (.bool (Wt.shNm b))∧w=w':=by
 have h:=latin_any true b w hs;rw [latB_sh] at h;exact h
theorem rbin_any (o:Int) (w:World):Calls Tryz.prog 87 #[.int .i64 o] w fun e w'=>e=.returned (.bool (Wt.isBin o))∧w=w':=by
 unfold Wt.isBin;by_cases a1:11≤o <;> by_cases a2:o≤16 <;> by_cases a3:21≤o <;> by_cases a4:o≤26
 any_goals (exfalso;omega)
 all_goals
  go_enter Tryz.func87,Tryz.ntmps87;go_wp2;go_ret;exact ⟨ret_bool (by simp [a1,a2,a3,a4]),rfl⟩
theorem rrf_any (a:Wt.Rf) (w:World) (hs:a.s.size≤9223372036854775807):Calls Tryz.prog 86 #[.agg #[.string a.s,.int .i64 a.r,.int .i64 a.c,.bool a.fr,.bool a.fc]] w fun e w'=>e=.returned (.bool (Wt.rfOk a))∧Below w.heap.size w w':=by
 obtain ⟨s,r,c,fr,fc⟩:=a;unfold Wt.rfOk Wt.inR;simp only at hs ⊢;have C:=fun w=>shNm_any s w hs
 by_cases r0:r<0
 ·have r0':¬ 0≤r:=by omega
  rw [decide_eq_false r0'];go_enter Tryz.func86,Tryz.ntmps86;go_wp2;go_ret;exact ⟨ret_bool (by simp),by with_reducible repeat (first | exact Below.refl _ _ | refine below_drewN ?_ _ | refine Below.setCell ?_ (by first | (simp;done) | (simp;omega) | omega) _ | refine Below.drew ?_ | refine below_end ?_ (by assumption) | refine ball ?_ _)⟩
 by_cases r1:65536≤r
 ·rw [decide_eq_false (p:=r<65536) (by omega)];go_enter Tryz.func86,Tryz.ntmps86;go_wp2;go_ret;exact ⟨ret_bool (by simp),by with_reducible repeat (first | exact Below.refl _ _ | refine below_drewN ?_ _ | refine Below.setCell ?_ (by first | (simp;done) | (simp;omega) | omega) _ | refine Below.drew ?_ | refine below_end ?_ (by assumption) | refine ball ?_ _)⟩
 by_cases c0:c<0
 ·rw [decide_eq_false (p:=0≤c) (by omega)];go_enter Tryz.func86,Tryz.ntmps86;go_wp2;go_ret;exact ⟨ret_bool (by simp),by with_reducible repeat (first | exact Below.refl _ _ | refine below_drewN ?_ _ | refine Below.setCell ?_ (by first | (simp;done) | (simp;omega) | omega) _ | refine Below.drew ?_ | refine below_end ?_ (by assumption) | refine ball ?_ _)⟩
 by_cases c1:256≤c
 ·rw [decide_eq_false (p:=c<256) (by omega)];go_enter Tryz.func86,Tryz.ntmps86;go_wp2;go_ret;exact ⟨ret_bool (by simp),by with_reducible repeat (first | exact Below.refl _ _ | refine below_drewN ?_ _ | refine Below.setCell ?_ (by first | (simp;done) | (simp;omega) | omega) _ | refine Below.drew ?_ | refine below_end ?_ (by assumption) | refine ball ?_ _)⟩
 rw [decide_eq_true (p:=0≤r) (by omega),decide_eq_true (p:=r<65536) (by omega),decide_eq_true (p:=0≤c) (by omega),decide_eq_true (p:=c<256) (by omega)];by_cases h0:s=⟨#[]⟩
 ·subst h0;go_enter Tryz.func86,Tryz.ntmps86;go_wp2;go_ret;exact ⟨rfl,by with_reducible repeat (first | exact Below.refl _ _ | refine below_drewN ?_ _ | refine Below.setCell ?_ (by first | (simp;done) | (simp;omega) | omega) _ | refine Below.drew ?_ | refine below_end ?_ (by assumption) | refine ball ?_ _)⟩
 ·have hE:=empty_of h0;rw [decide_eq_false h0];generalize Wt.shNm s=q at *;go_enter Tryz.func86,Tryz.ntmps86;go_wp2_with fail
  refine (C _).mono ?_;rintro e w2 ⟨rfl,rfl⟩;go_wp2;go_ret;exact ⟨by simp,by with_reducible repeat (first | exact Below.refl _ _ | refine below_drewN ?_ _ | refine Below.setCell ?_ (by first | (simp;done) | (simp;omega) | omega) _ | refine Below.drew ?_ | refine below_end ?_ (by assumption) | refine ball ?_ _)⟩
theorem rlit_any (v:Wt.Vl) (w:World) (hf:Wt.FitV v):Calls Tryz.prog 85 #[.agg #[.int .i64 v.k,.int .i64 v.n,.int .i64 v.d,.string v.t,.bool v.b,.int .i64 v.f]] w fun e w'=>e=.returned (.bool (Wt.vlOk v))∧Below w.heap.size w w':=by
 have C:=fun w=>r2right_any v w hf
 obtain ⟨k,n,d,t,b,f⟩:=v;obtain ⟨⟨h1,h2⟩,⟨h3,h4⟩,hs⟩:=hf;unfold Wt.vlOk;simp only at h1 h2 h3 h4 hs C ⊢;by_cases e0:k=0
 ·subst e0;rw [if_pos rfl];generalize Wv.right 0 n d t b f=q at *;cases q
  all_goals
   go_enter Tryz.func85,Tryz.ntmps85;go_wp2_with fail
   refine (C _).mono ?_;rintro e w1 ⟨rfl,hb⟩;have hB:=below_end (ball (Below.refl _ w) _) hb;obtain ⟨c0,c1,c2,c3,c4,c5⟩:=(AtL.below hb (AtL.new0 w _ [.int .i64 0,.int .i64 n,.int .i64 d,.string t,.bool b,.int .i64 f])).f6;go_wp2;go_ret;exact ⟨rfl,hB⟩
 rw [if_neg e0];by_cases e1:k=1
 ·subst e1;rw [if_pos rfl];have hr:Wv.right 1 n d t b f=true→1≤d:=by
   unfold Wv.right;rw [if_neg (by decide),if_pos rfl];intro h;simp only [Bool.and_eq_true] at h;have:=h.1.1.1;unfold Wnum.rightB at this;have:=of_decide_eq_true this;omega
  generalize Wv.right 1 n d t b f=q at *;cases q
  ·go_enter Tryz.func85,Tryz.ntmps85;go_wp2_with fail
   refine (C _).mono ?_;rintro e w1 ⟨rfl,hb⟩;have hB:=below_end (ball (Below.refl _ w) _) hb;obtain ⟨c0,c1,c2,c3,c4,c5⟩:=(AtL.below hb (AtL.new0 w _ [.int .i64 1,.int .i64 n,.int .i64 d,.string t,.bool b,.int .i64 f])).f6;go_wp2;go_ret;exact ⟨rfl,hB⟩
  have hd:=hr rfl;clear hr;by_cases hn:0≤n
  ·have hd0:¬ d=0:=by omega
   have hdm:¬ d = -1:=by omega
   rw [decide_eq_true hn];go_enter Tryz.func85,Tryz.ntmps85;go_wp2_with fail
   refine (C _).mono ?_;rintro e w1 ⟨rfl,hb⟩;have hB:=below_end (ball (Below.refl _ w) _) hb;obtain ⟨c0,c1,c2,c3,c4,c5⟩:=(AtL.below hb (AtL.new0 w _ [.int .i64 1,.int .i64 n,.int .i64 d,.string t,.bool b,.int .i64 f])).f6;go_wp2;go_ret;refine ⟨ret_bool ?_,hB⟩;rw [Bool.eq_iff_iff];simp
  ·rw [decide_eq_false hn];go_enter Tryz.func85,Tryz.ntmps85;go_wp2_with fail
   refine (C _).mono ?_;rintro e w1 ⟨rfl,hb⟩;have hB:=below_end (ball (Below.refl _ w) _) hb;obtain ⟨c0,c1,c2,c3,c4,c5⟩:=(AtL.below hb (AtL.new0 w _ [.int .i64 1,.int .i64 n,.int .i64 d,.string t,.bool b,.int .i64 f])).f6;go_wp2;go_ret;exact ⟨ret_bool (by simp),hB⟩
 rw [if_neg e1];generalize Wv.right k n d t b f=q at *;have e0':(k == 0)=false:=by simp [e0]
 have e1':(k != 1)=true:=by simp [e1]
 cases q
 all_goals
  go_enter Tryz.func85,Tryz.ntmps85;go_wp2_with fail
  refine (C _).mono ?_;rintro e w1 ⟨rfl,hb⟩;have hB:=below_end (ball (Below.refl _ w) _) hb;obtain ⟨c0,c1,c2,c3,c4,c5⟩:=(AtL.below hb (AtL.new0 w _ [.int .i64 k,.int .i64 n,.int .i64 d,.string t,.bool b,.int .i64 f])).f6;go_wp2;go_ret;exact ⟨rfl,hB⟩
def nps (x:Wt.Nd):Int:=if x.k=4 then 1 else if x.k=5 then 2 else if x.k=6 then x.ar else 0
theorem nps_parts {x:Wt.Nd} (h:Wt.right x=true):nps x=Wt.parts x:=by
 unfold Wt.right at h;unfold Wt.parts nps;by_cases h4:x.k=4
 ·rw [if_pos h4,if_pos h4]
 rw [if_neg h4,if_neg h4];by_cases h5:x.k=5
 ·rw [if_pos h5,if_pos h5]
 rw [if_neg h5,if_neg h5];by_cases h6:x.k=6
 ·rw [if_pos h6]
 rw [if_neg h6];by_cases h1:x.k=1
 ·rw [if_pos h1,Bool.and_eq_true,eqN_iff] at h;have:=congrArg Wt.Nd.ar h.2;simp only at this;omega
 rw [if_neg h1] at h;by_cases h1:x.k=2
 ·rw [if_pos h1,Bool.and_eq_true,eqN_iff] at h;have:=congrArg Wt.Nd.ar h.2;simp only at this;omega
 rw [if_neg h1] at h;by_cases h1:x.k=3
 ·rw [if_pos h1,Bool.and_eq_true,eqN_iff] at h;have:=congrArg Wt.Nd.ar h.2;simp only at this;omega
 rw [if_neg h1,if_neg h4,if_neg h5,if_neg h6] at h;cases h
theorem rbin_any4 (o:Int) (w:World):Calls Tryz.prog 87 #[.int .i64 o] w fun e w'=>e=.returned (.bool (Wt.isBin o))∧Below w.heap.size w w':=(rbin_any o w).mono fun e w' h=>⟨h.1,h.2 ▸ Below.refl _ _⟩
theorem rnode_1 (x:Wt.Nd) (w:World) (hk:x.k=1) (hf:Wt.FitV x.v) :
  Calls Tryz.prog 54 #[ndV x] w fun e w'=>e=.returned (.tuple #[.int .i64 0,.bool (Wt.vlOk x.v && eqN x ⟨1,x.v,0,⟨#[]⟩,0,Wt.r0,Wt.r0⟩)])∧Below w.heap.size w w':=by
 have hq:∀ w:World,(binOp .eql 45 (.agg (nd20 x).toArray) (.agg #[.int .i64 1,.int .i64 x.v.k,.int .i64 x.v.n,.int .i64 x.v.d,.string x.v.t,.bool x.v.b,.int .i64 x.v.f,.int .i64 0,.string ⟨#[]⟩,.int .i64 0,.string ⟨#[]⟩,.int .i64 0,.int .i64 0,.bool false,.bool false,.string ⟨#[]⟩,.int .i64 0,.int .i64 0,.bool false,.bool false])).run Tryz.prog w=.ok (.bool (eqN x ⟨1,x.v,0,⟨#[]⟩,0,Wt.r0,Wt.r0⟩)) w:=fun w=>eqN_run x ⟨1,x.v,0,⟨#[]⟩,0,Wt.r0,Wt.r0⟩ w
 generalize eqN x ⟨1,x.v,0,⟨#[]⟩,0,Wt.r0,Wt.r0⟩=R at *;have C:=fun w=>rlit_any x.v w hf
 generalize Wt.vlOk x.v=q at *;have pA:AtL (w.alloc (.cells (nd20 x).toArray 45)) w.heap.size (nd20 x):=AtL.new0 w _ _;have hBa:Below w.heap.size w (w.alloc (.cells (nd20 x).toArray 45)):=ball (Below.refl _ w) _;show Calls _ _ #[.agg (nd20 x).toArray] _ _
 cases R
 ·go_enter Tryz.func54,Tryz.ntmps54;go_upto_region 1 with fail
  generalize (w.alloc (.cells (nd20 x).toArray 45))=W0 at *;have rA:=pA.range;have a0:W0.cell? ⟨w.heap.size,0,none⟩=some (.int .i64 1):=by rw [←hk];exact pA.2.1 0 _ rfl
  have a1:=pA.2.1 1 _ rfl;have a2:=pA.2.1 2 _ rfl;have a3:=pA.2.1 3 _ rfl;have a4:=pA.2.1 4 _ rfl;have a5:=pA.2.1 5 _ rfl;have a6:=pA.2.1 6 _ rfl;go_wp2_with ((with_reducible refine wpList_load_want ?_ 45 (.tmp 1) ?_ w.heap.size 0 ?_ (nd20 x) _ ?_ Tryz.underlying45 ?_ ?_ ?_);rfl;rfl;rfl;exact rA;rfl;kernel_rfl)
  go_ret2
  exact ⟨by simp,hBa⟩
 ·go_enter Tryz.func54,Tryz.ntmps54;go_upto_region 1 with fail
  generalize (w.alloc (.cells (nd20 x).toArray 45))=W0 at *;have rA:=pA.range;have a0:W0.cell? ⟨w.heap.size,0,none⟩=some (.int .i64 1):=by rw [←hk];exact pA.2.1 0 _ rfl
  have a1:=pA.2.1 1 _ rfl;have a2:=pA.2.1 2 _ rfl;have a3:=pA.2.1 3 _ rfl;have a4:=pA.2.1 4 _ rfl;have a5:=pA.2.1 5 _ rfl;have a6:=pA.2.1 6 _ rfl;go_wp2_with ((with_reducible refine wpList_load_want ?_ 45 (.tmp 1) ?_ w.heap.size 0 ?_ (nd20 x) _ ?_ Tryz.underlying45 ?_ ?_ ?_);rfl;rfl;rfl;exact rA;rfl;kernel_rfl)
  refine (C _).mono ?_;rintro e w1 ⟨rfl,hb⟩;have hB1:=below_end hBa hb;go_wp2;go_ret2
  exact ⟨by simp,hB1⟩
theorem rnode_2 (x:Wt.Nd) (w:World) (hk:x.k=2) (hs:x.a.s.size≤9223372036854775807) :
  Calls Tryz.prog 54 #[ndV x] w fun e w'=>e=.returned (.tuple #[.int .i64 0,.bool (Wt.rfOk x.a && eqN x ⟨2,Wt.v0,0,⟨#[]⟩,0,x.a,Wt.r0⟩)])∧Below w.heap.size w w':=by
 have hq:∀ w:World,(binOp .eql 45 (.agg (nd20 x).toArray) (.agg #[.int .i64 2,.int .i64 0,.int .i64 0,.int .i64 0,.string ⟨#[]⟩,.bool false,.int .i64 0,.int .i64 0,.string ⟨#[]⟩,.int .i64 0,.string x.a.s,.int .i64 x.a.r,.int .i64 x.a.c,.bool x.a.fr,.bool x.a.fc,.string ⟨#[]⟩,.int .i64 0,.int .i64 0,.bool false,.bool false])).run Tryz.prog w=.ok (.bool (eqN x ⟨2,Wt.v0,0,⟨#[]⟩,0,x.a,Wt.r0⟩)) w:=fun w=>eqN_run x ⟨2,Wt.v0,0,⟨#[]⟩,0,x.a,Wt.r0⟩ w
 generalize eqN x ⟨2,Wt.v0,0,⟨#[]⟩,0,x.a,Wt.r0⟩=R at *;have C:=fun w=>rrf_any x.a w hs
 generalize Wt.rfOk x.a=q at *;have pA:AtL (w.alloc (.cells (nd20 x).toArray 45)) w.heap.size (nd20 x):=AtL.new0 w _ _;have hBa:Below w.heap.size w (w.alloc (.cells (nd20 x).toArray 45)):=ball (Below.refl _ w) _;show Calls _ _ #[.agg (nd20 x).toArray] _ _
 cases R
 ·go_enter Tryz.func54,Tryz.ntmps54;go_upto_region 1 with fail
  generalize (w.alloc (.cells (nd20 x).toArray 45))=W0 at *;have rA:=pA.range;have a0:W0.cell? ⟨w.heap.size,0,none⟩=some (.int .i64 2):=by rw [←hk];exact pA.2.1 0 _ rfl
  have a10:=pA.2.1 10 _ rfl;have a11:=pA.2.1 11 _ rfl;have a12:=pA.2.1 12 _ rfl;have a13:=pA.2.1 13 _ rfl;have a14:=pA.2.1 14 _ rfl;go_wp2_with ((with_reducible refine wpList_load_want ?_ 45 (.tmp 1) ?_ w.heap.size 0 ?_ (nd20 x) _ ?_ Tryz.underlying45 ?_ ?_ ?_);rfl;rfl;rfl;exact rA;rfl;kernel_rfl)
  go_ret2
  exact ⟨by simp,hBa⟩
 ·go_enter Tryz.func54,Tryz.ntmps54;go_upto_region 1 with fail
  generalize (w.alloc (.cells (nd20 x).toArray 45))=W0 at *;have rA:=pA.range;have a0:W0.cell? ⟨w.heap.size,0,none⟩=some (.int .i64 2):=by rw [←hk];exact pA.2.1 0 _ rfl
  have a10:=pA.2.1 10 _ rfl;have a11:=pA.2.1 11 _ rfl;have a12:=pA.2.1 12 _ rfl;have a13:=pA.2.1 13 _ rfl;have a14:=pA.2.1 14 _ rfl;go_wp2_with ((with_reducible refine wpList_load_want ?_ 45 (.tmp 1) ?_ w.heap.size 0 ?_ (nd20 x) _ ?_ Tryz.underlying45 ?_ ?_ ?_);rfl;rfl;rfl;exact rA;rfl;kernel_rfl)
  refine (C _).mono ?_;rintro e w1 ⟨rfl,hb⟩;have hB1:=below_end hBa hb;go_wp2;go_ret2
  exact ⟨by simp,hB1⟩
theorem rnode_5 (x:Wt.Nd) (w:World) (hk:x.k=5) :
  Calls Tryz.prog 54 #[ndV x] w fun e w'=>e=.returned (.tuple #[.int .i64 2,.bool (Wt.isBin x.op && eqN x ⟨5,Wt.v0,x.op,⟨#[]⟩,0,Wt.r0,Wt.r0⟩)])∧Below w.heap.size w w':=by
 have hq:∀ w:World,(binOp .eql 45 (.agg (nd20 x).toArray) (.agg #[.int .i64 5,.int .i64 0,.int .i64 0,.int .i64 0,.string ⟨#[]⟩,.bool false,.int .i64 0,.int .i64 x.op,.string ⟨#[]⟩,.int .i64 0,.string ⟨#[]⟩,.int .i64 0,.int .i64 0,.bool false,.bool false,.string ⟨#[]⟩,.int .i64 0,.int .i64 0,.bool false,.bool false])).run Tryz.prog w=.ok (.bool (eqN x ⟨5,Wt.v0,x.op,⟨#[]⟩,0,Wt.r0,Wt.r0⟩)) w:=fun w=>eqN_run x ⟨5,Wt.v0,x.op,⟨#[]⟩,0,Wt.r0,Wt.r0⟩ w
 generalize eqN x ⟨5,Wt.v0,x.op,⟨#[]⟩,0,Wt.r0,Wt.r0⟩=R at *;have C:=fun w=>rbin_any4 x.op w
 generalize Wt.isBin x.op=q at *;have pA:AtL (w.alloc (.cells (nd20 x).toArray 45)) w.heap.size (nd20 x):=AtL.new0 w _ _;have hBa:Below w.heap.size w (w.alloc (.cells (nd20 x).toArray 45)):=ball (Below.refl _ w) _;show Calls _ _ #[.agg (nd20 x).toArray] _ _
 cases R
 ·go_enter Tryz.func54,Tryz.ntmps54;go_upto_region 1 with fail
  generalize (w.alloc (.cells (nd20 x).toArray 45))=W0 at *;have rA:=pA.range;have a0:W0.cell? ⟨w.heap.size,0,none⟩=some (.int .i64 5):=by rw [←hk];exact pA.2.1 0 _ rfl
  have a7:=pA.2.1 7 _ rfl;go_wp2_with ((with_reducible refine wpList_load_want ?_ 45 (.tmp 1) ?_ w.heap.size 0 ?_ (nd20 x) _ ?_ Tryz.underlying45 ?_ ?_ ?_);rfl;rfl;rfl;exact rA;rfl;kernel_rfl)
  go_ret2
  exact ⟨by simp,hBa⟩
 ·go_enter Tryz.func54,Tryz.ntmps54;go_upto_region 1 with fail
  generalize (w.alloc (.cells (nd20 x).toArray 45))=W0 at *;have rA:=pA.range;have a0:W0.cell? ⟨w.heap.size,0,none⟩=some (.int .i64 5):=by rw [←hk];exact pA.2.1 0 _ rfl
  have a7:=pA.2.1 7 _ rfl;go_wp2_with ((with_reducible refine wpList_load_want ?_ 45 (.tmp 1) ?_ w.heap.size 0 ?_ (nd20 x) _ ?_ Tryz.underlying45 ?_ ?_ ?_);rfl;rfl;rfl;exact rA;rfl;kernel_rfl)
  refine (C _).mono ?_;rintro e w1 ⟨rfl,hb⟩;have hB1:=below_end hBa hb;go_wp2;go_ret2
  exact ⟨by simp,hB1⟩
end Go.Proofs.YtlggnpohhahdlaaGreatDoor
