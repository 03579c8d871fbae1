/- LRefI, TQParse, TParC, TLawParses, TLaid. -/
import Derived.Test.YtlggnpohhahdlaaGreatDoorQ45
import Derived.Lib.LaidTab
import Derived.Deep.Strs
import Derived.Stop.LaidErr
set_option maxHeartbeats 3200000
set_option maxRecDepth 100000
namespace Go.Proofs.YtlggnpohhahdlaaGreatDoor
open Go.Shelf Go.RowKit
set_option linter.unusedVariables false
theorem x4_one_any (b:ByteArray) (q:Nat) (c:UInt8) (t:List UInt8) (w:World) (hs:b.size≤1024) (hq:q<b.size) (hd:b.data.toList.drop q=c::t) (h32:¬ c=32):Calls Tryz.prog 41 #[.string b,.int .i64 q] w fun e w'=>OnePost q (c::t) e∧Below w.heap.size w w':=by
 cases hdg:Wlx.dig c with
 | true=>exact one_num b q c t w hs hq hd hdg
 | false =>
  by_cases h34:c=34
  ·subst h34;exact one_text b q t w hs hq hd
  ·cases hw:Wlx.wrd c with
   | true=>exact one_word b q c t w hs hq hd hw hdg
   | false =>
    by_cases h35:c=35
    ·subst h35;exact one_fault b q t w hs hq hd
    ·exact one_mark b q c t w hs hq hd hw h34 h35 h32
theorem rscan_any (b:ByteArray) (w:World) (hs:b.size≤9223372036854775807):Calls Tryz.prog 24 #[.string b] w fun e w'=>ScanPost w.heap.size (scanAll b.data.toList) e w'∧Below w.heap.size w w':=by
 by_cases hL:1024<b.size
 ·have E:Hid (scanAll b.data.toList=Wlx.Res.err 2 0):=by
   show _=_;unfold scanAll;rw [if_pos (by exact hL)]
  have hLi:(1024:Int)<(b.size:Int):=by omega
  go_enter Tryz.func24,Tryz.ntmps24;go_wp2;go_ret3
  refine ⟨?_,Below.refl _ _⟩;rw [E.out];rfl
 ·have E0:Hid (scanAll b.data.toList=Wlx.scan 0 (b.data.toList.drop 0)):=by
   show _=_;unfold scanAll;rw [if_neg (by exact hL)];rfl
  have hLi:¬ (1024:Int)<(b.size:Int):=by omega
  have hL2:b.size≤1024:=by omega
  obtain ⟨R,hR⟩:∃ R,scanAll b.data.toList=R:=⟨_,rfl⟩
  rw [hR] at E0 ⊢;clear hR;obtain ⟨i0,hi,hz0,hz1,hz2⟩:=info_parts tokInfo;have HO0:Hid (OwnT w w.heap.size (.slice none 0 0) []):=World.ownsRow_nil _ _ _ _;go_enter Tryz.func24,Tryz.ntmps24;go_wp2_with fail
  go_loopg [5,6] (b.size) (fun gk x y wr=>∃ (pos:Nat) (acc:List Wlx.Tok),y=.int .i64 pos∧gk=b.size - pos∧pos≤b.size∧Hid (R=Wlx.Res.pre acc (Wlx.scan pos (b.data.toList.drop pos)))∧Hid (OwnT wr w.heap.size x acc)∧acc.length≤pos∧Below w.heap.size w wr)
  case atStart=>exact ⟨0,[],rfl,rfl,Nat.zero_le _,E0,HO0,Nat.le_refl _,Below.refl _ _⟩
  case round =>
   clear HO0 E0;obtain ⟨q,acc,rfl,hg,hq,HR,HO,hac,hb⟩:=hrel;have sw:=hb.size;by_cases hlt:q<b.size
   ·have hli:(q:Int)<(b.size:Int):=by omega
    have hd:=drop_at b q hlt;obtain ⟨c,hc⟩:∃ c,b[q]=c:=⟨_,rfl⟩
    obtain ⟨t,ht⟩:∃ t,b.data.toList.drop (q+1)=t:=⟨_,rfl⟩
    rw [hc,ht] at hd;have eb:(((b[q]).toNat:Nat):Int)=((c.toNat:Nat):Int):=by rw [hc]
    have hsz:=size_of hq hd;simp only [List.length_cons] at hsz;by_cases h32:c=32
    ·have E:Hid (R=Wlx.Res.pre acc (Wlx.scan (q+1) (b.data.toList.drop (q+1)))):=by
      show _=_;rw [HR.out,hd,h32,Wlx.scan_blank,ht]
     have e32:(((c.toNat:Nat):Int) == 32)=true:=by rw [h32];rfl
     clear HR hd hc ht h32;go_wp2_with fail
     go_roundg (b.size - (q+1))
     case rel=>exact ⟨q+1,acc,by simp,rfl,hlt,E,HO,by omega,hb⟩
     case measure=>omega
    ·have e32:(((c.toNat:Nat):Int) == 32)=false:=by
      refine beq_eq_false_iff_ne.2 (fun e=>h32 ?_);have:c.toNat=32:=by omega
      exact UInt8.toNat_inj.1 this
     have ON:=fun w=>x4_one_any b q c t w hL2 hlt hd h32
     have Hd:Hid (b.data.toList.drop q=c::t):=hd;have H32:Hid (¬ c=32):=h32;clear hd hc ht h32;go_wp2_with fail
     refine (ON _).mono ?_;rintro e w1 ⟨hp,hb1⟩;have hB1:Below w.heap.size w w1:=hb.trans (hb1.mono sw);have own1:OwnT w1 w.heap.size u5 acc:=own_below HO.out hb1;clear HO ON hb1;rcases hp with ⟨h6,k0,s0,rfl⟩ | ⟨h6,hbad,k0,s0,rfl⟩ | ⟨h6,hbad,rfl⟩
     ·have E:Hid (R=Wlx.Res.err (if (c::t).head? = some 34 then 41 else 40) q):=by
       show _=_
       rw [HR.out,Hd.out,Wlx.scan_none H32.out h6,Wlx.Res.pre_err];simp only [List.head?_cons,Option.some.injEq]
      have hcn:(((if (c::t).head? = some 34 then 41 else 40:Nat):Int) != 0)=true:=by split <;> rfl
      generalize (if (c::t).head? = some 34 then 41 else 40:Nat)=er at *;clear HR h6 own1 Hd H32;go_wp2;go_ret3
      refine ⟨by rw [E.out];rfl,hB1.alloc hB1.size _⟩
     ·have E:Hid (R=Wlx.Res.err 40 (q+Wlx.runP Wlx.prt ((c::t).take (Wlx.sz (Wlx.hit (c::t)) (c::t))))):=by
       show _=_
       rw [HR.out,Hd.out,Wlx.scan_bad H32.out rfl h6 rfl hbad,Wlx.Res.pre_err]
      generalize q+Wlx.runP Wlx.prt ((c::t).take (Wlx.sz (Wlx.hit (c::t)) (c::t)))=er at *;clear HR h6 own1 Hd H32 hbad;go_wp2;go_ret3
      refine ⟨by rw [E.out];rfl,hB1.alloc hB1.size _⟩
     ·obtain ⟨k,hk⟩:∃ k,Wlx.hit (c::t)=k:=⟨_,rfl⟩
      obtain ⟨n,hn⟩:∃ n,Wlx.sz k (c::t)=n:=⟨_,rfl⟩
      rw [hk] at h6 hbad ⊢;rw [hn] at hbad ⊢;obtain ⟨tx,htx⟩:∃ tx,Wlx.said k ((c::t).take n)=tx:=⟨_,rfl⟩
      rw [htx];have hnp:0<n:=by rw [←hn,←hk];exact Wlx.hit_pos (by rw [hk];exact h6)
      have hnl:n≤t.length+1:=by rw [←hn];exact Wlx.sz_le _ _
      have E:Hid (R=Wlx.Res.pre (acc++[⟨k,tx,q⟩]) (Wlx.scan (q+n) (b.data.toList.drop (q+n)))):=by
       show _=_
       rw [HR.out,Hd.out,Wlx.scan_tok H32.out hk h6 hn hbad,Wlx.Res.pre_snoc,htx,←Hd.out,List.drop_drop]
      clear HR h6 Hd H32 hbad hk hn htx;have s1:=hB1.size;go_wp2_with (at_builtin;refine wpList_append_own _ rfl _ _ 46 rfl w.heap.size 79 i0 (.agg #[.int .i64 0,.string ⟨#[]⟩,.int .i64 0]) 3 32 Tryz.underlying46 hi hz0 hz1 hz2 rfl (by decide) _ _ _ rfl ((own1.alloc _).alloc _) ⟨w1.heap.size+1,0,none⟩ 1 1 [.int .i64 k,.string ⟨tx.toArray⟩,.int .i64 q] rfl rfl ?c1 ?c2 (by unfold maxLen;omega) (by omega) (by simp;omega) ?_)
      case c1 =>
       have:=cell_three_new (w1.alloc (.cells #[.int .i64 k,.string ⟨tx.toArray⟩,.int .i64 q] 79)) (.int .i64 k) (.string ⟨tx.toArray⟩) (.int .i64 q) 79;simpa using this
      case c2=>intro u hu;simp at hu;rcases hu with rfl | rfl | rfl <;> rfl
      intro v2 w5 hown2 hgrow _;have hb5:Below w.heap.size w w5:=((hB1.alloc hB1.size _).alloc (by simp;omega) _).grown hgrow (by simp;omega) (fun k hk=>(own1.lt k hk).1);have HO5:Hid (OwnT w5 w.heap.size v2 (acc++[⟨k,tx,q⟩])):=by
       show w5.ownsRow _ _ 3 v2 (acc++[_]).length (rowT (acc++[_]))
       rw [List.length_append,rowT_snoc];exact hown2
      clear hown2 hgrow own1;go_wp2_with fail
      go_roundg (b.size - (q+n))
      case rel=>exact ⟨q+n,acc++[⟨k,tx,q⟩],by simp,rfl,by omega,E,HO5,by simp;omega,hb5⟩
      case measure=>omega
   ·have hli:¬ (q:Int)<(b.size:Int):=by omega
    have E:Hid (R=Wlx.Res.ok acc):=by
     show _=_
     rw [HR.out,drop_end b q hlt,Wlx.scan_nil,Wlx.Res.pre_ok,List.append_nil]
    clear HR;go_wp2;go_ret3
    refine ⟨?_,hb⟩;rw [E.out];exact ⟨_,rfl,HO.out⟩
open Go.RowKit Go.Shelf
theorem rs_len {tn lo kp:Nat} {en:Int} {w:World} {ts:List Wlx.TV} {E Bad:Int} (h:RS tn lo kp en w ts E Bad):∃ a:Nat,w.cell? ⟨kp,1,none⟩=some (.int .i64 (a:Int))∧w.cell? ⟨kp,3,none⟩=some (.int .i64 E)∧w.cell? ⟨kp,4,none⟩=some (.int .i64 Bad)∧(ts=[]→¬ a<tn)∧(ts ≠ []→a<tn):=by
 obtain ⟨av,cap,T,a,e,h2,h3,h4,h5,h6,h7,h8⟩:=h;refine ⟨a,h6.2.1 1 _ rfl,h6.2.1 3 _ rfl,h6.2.1 4 _ rfl,fun hz=>?_,fun hz=>?_⟩
 ·intro hlt;rw [hz,List.drop_eq_nil_iff] at e;omega
 ·by_cases hlt:a<tn
  ·exact hlt
  ·rw [List.drop_eq_nil_of_le (by omega)] at e;exact absurd e.symm hz
theorem qparse_err (b:ByteArray) (w:World) (hs:b.size≤9223372036854775807) (c p:Nat) (hc:c ≠ 0) (hr:scanAll b.data.toList=.inr (c,p)):Calls Tryz.prog 8 #[.string b] w fun e w'=>e=.returned (.tuple #[.slice none 0 0,.int .i64 (c:Int),.int .i64 (p:Int)])∧Below w.heap.size w w':=by
 have S:=rscan_any b w hs;rw [hr] at S;have hci:((c:Int) != 0)=true:=by simp;omega
 clear hr;go_enter Tryz.func8,Tryz.ntmps8;go_wp2_with fail
 refine S.mono ?_;rintro e w1 ⟨rfl,hb⟩;go_wp2;go_ret3
 exact ⟨rfl,hb⟩
theorem rs_new {w:World} {B:Nat} {ts:List Wlx.TV} {cap:Nat} {av:Option Addr} (en:Int) (own:OwnV w B (.slice av ts.length cap) ts) (h1024:ts.length≤1024) :
  RS ts.length (w.heap.size+1) w.heap.size en (w.alloc (.cells #[.slice av ts.length cap,.int .i64 0,.int .i64 en,.int .i64 0,.int .i64 0] 60)) ts 0 0:=by
 refine ⟨av,cap,ts,0,rfl,Nat.zero_le _,⟨h1024,rfl⟩,Nat.lt_succ_self _,by simp,AtL.new0 _ _ _,(RdV.own own).alloc _,fun g e=>?_⟩;have:=(own.lt g (by rw [e];rfl)).2;omega
theorem qparse_toks (b:ByteArray) (w:World) (hs:b.size≤9223372036854775807) (ts:List Wlx.Tok) (hr:scanAll b.data.toList=.inl ts) (RES:List Wt.Nd ⊕ (Int × Int)) (hres:RES=prsT (b.size:Int) (ts.map Wlx.tv)) :
  Calls Tryz.prog 8 #[.string b] w fun e w'=>PaPost w.heap.size RES e w'∧Below w.heap.size w w':=by
 have S:=rscan_any b w hs;rw [hr] at S;have hT:ts.length≤1024∧∀ t ∈ ts.map Wlx.tv,TokOk t:=by
  have hbl:b.data.toList.length=b.size:=by rw [Array.length_toList];rfl
  unfold scanAll at hr;split at hr
  ·cases hr
  ·rename_i h
   have:=scan_ok _ 0 b.data.toList (Nat.le_refl _) (by omega) ts hr;exact ⟨by omega,this.2⟩
 obtain ⟨hT1,hT2⟩:=hT;have hT3:(ts.map Wlx.tv).length≤1024:=by rw [List.length_map];exact hT1
 obtain ⟨T,hTe⟩:∃ T,ts.map Wlx.tv=T:=⟨_,rfl⟩
 have S:Calls Tryz.prog 24 #[.string b] w fun e w'=>(∃ v,e=.returned (.tuple #[v,.int .i64 0,.int .i64 0])∧OwnV w' w.heap.size v T)∧Below w.heap.size w w':=by
  refine S.mono ?_;rintro e w' ⟨⟨v,e1,own⟩,hb⟩;exact ⟨⟨v,e1,by rw [←hTe];exact OwnV.of own⟩,hb⟩
 rw [hTe] at hT2 hT3 hres;have LV:=fun lo kp en=>qlevel_lv T.length lo kp en T.length
 unfold prsT pall at hres;clear hr hTe hT1;have hft:=fun row rest=>lv_fit (b.size:Int) (10 * T.length+9) 0 T row rest hT2
 cases hl:lv (b.size:Int) (10 * T.length+9) 0 T with
 | inr q =>
  obtain ⟨c,p⟩:=q;rw [hl] at hres;have HRES:Hid (RES=.inr (c,p)):=hres;clear hres hft;go_enter Tryz.func8,Tryz.ntmps8;go_wp2_with fail
  refine S.mono ?_;rintro e w1 ⟨⟨v,rfl,own⟩,hb1⟩;obtain ⟨av,cap,rfl,-⟩:=own.form;have hR0:=rs_new (b.size:Int) own hT3;have hbW:Below w.heap.size w (w1.alloc (.cells #[.slice av T.length cap,.int .i64 0,.int .i64 (b.size:Int),.int .i64 0,.int .i64 0] 60)):=ball hb1 _;have hz1:=hb1.size;clear own hb1;go_upto_region 5 with fail
  have S2:=LV (w1.heap.size+1) w1.heap.size (b.size:Int) T (w1.alloc (.cells #[.slice av T.length cap,.int .i64 0,.int .i64 (b.size:Int),.int .i64 0,.int .i64 0] 60)) (Nat.le_refl _) hT2 hR0;rw [hl] at S2;generalize w1.alloc (.cells #[.slice av T.length cap,.int .i64 0,.int .i64 (b.size:Int),.int .i64 0,.int .i64 0] 60)=W at *;obtain ⟨kp,hkp⟩:∃ kp,w1.heap.size=kp:=⟨_,rfl⟩
  rw [hkp] at S2 hR0 hz1 ⊢;have hsW:=hbW.size;clear S LV hkp;go_wp2_with fail
  refine S2.mono ?_;rintro e w2 ⟨hg2,hc,vb,row,ts2,rfl,ownb,hrw,hRb⟩;obtain ⟨a,c1,c3,c4,-,-⟩:=rs_len hRb;have hcb:(c == 0)=false:=by simpa using hc
  have hcn:(c != 0)=true:=by simpa using hc
  have hBW:Below w.heap.size w w2:=hbW.grown hg2 (by omega) (fun k e=>by have:=Option.some.inj e;omega);clear S2 hg2 ownb;go_wp2_with fail
  go_quiet (fail)
  have hb9:Below w2.heap.size w2 (w2.drewN nq):=below_drewN (Below.refl _ _) nq;go_wp2;go_ret3
  rw [HRES.out];exact ⟨rfl,(hBW).trans (hb9.mono hBW.size)⟩
 | inl q =>
  obtain ⟨row,rest⟩:=q;rw [hl] at hres;obtain ⟨hF,hlen⟩:=hft row rest hl;clear hft;cases rest with
  | nil =>
   have HRES:Hid (RES=if Wt.check row=0 then .inl row else .inr (Wt.check row,0)):=hres;clear hres;go_enter Tryz.func8,Tryz.ntmps8;go_wp2_with fail
   refine S.mono ?_;rintro e w1 ⟨⟨v,rfl,own⟩,hb1⟩;obtain ⟨av,cap,rfl,-⟩:=own.form;have hR0:=rs_new (b.size:Int) own hT3;have hbW:Below w.heap.size w (w1.alloc (.cells #[.slice av T.length cap,.int .i64 0,.int .i64 (b.size:Int),.int .i64 0,.int .i64 0] 60)):=ball hb1 _;have hz1:=hb1.size;clear own hb1;go_upto_region 5 with fail
   have S2:=LV (w1.heap.size+1) w1.heap.size (b.size:Int) T (w1.alloc (.cells #[.slice av T.length cap,.int .i64 0,.int .i64 (b.size:Int),.int .i64 0,.int .i64 0] 60)) (Nat.le_refl _) hT2 hR0;rw [hl] at S2;generalize w1.alloc (.cells #[.slice av T.length cap,.int .i64 0,.int .i64 (b.size:Int),.int .i64 0,.int .i64 0] 60)=W at *;obtain ⟨kp,hkp⟩:∃ kp,w1.heap.size=kp:=⟨_,rfl⟩
   rw [hkp] at S2 hR0 hz1 ⊢;have hsW:=hbW.size;clear S LV hkp;go_wp2_with fail
   refine S2.mono ?_;rintro e w2 ⟨hg2,vb,rfl,ownb,hRb⟩;obtain ⟨a,c1,c3,c4,hn1,-⟩:=rs_len hRb;have hal:=hn1 rfl;have hali:¬ (a:Int)<(T.length:Int):=by omega
   have hald:decide (a<T.length)=false:=by simpa using hal
   have hBW:Below w.heap.size w w2:=hbW.grown hg2 (by omega) (fun k e=>by have:=Option.some.inj e;omega);obtain ⟨avb,cb,rfl,hrb⟩:=ownb.form;have CK:=rcheck_any avb cb row w2 (by simp only [List.length_nil] at hlen;omega) hF hrb;have HO:Hid (OwnN w2 W.heap.size (.slice avb row.length cb) row):=ownb;clear S2 hg2 ownb hrb hn1;by_cases hck:Wt.check row=0
   ·rw [hck] at CK HRES;go_wp2_with fail
    refine CK.mono ?_;rintro e w3 ⟨rfl,hb3⟩;go_wp2;go_ret3
    rw [HRES.out];exact ⟨⟨_,rfl,own_ge (HO.out.below hb3) hsW⟩,below_end hBW hb3⟩
   ·have hcn:(Wt.check row != 0)=true:=by simpa using hck
    rw [if_neg hck] at HRES;generalize Wt.check row=ck at *;go_wp2_with fail
    refine CK.mono ?_;rintro e w3 ⟨rfl,hb3⟩;go_wp2;go_ret3
    rw [HRES.out];exact ⟨rfl,below_end hBW hb3⟩
  | cons t r =>
   have HRES:Hid (RES=.inr (50,pos (t::r) (b.size:Int))):=hres;clear hres;go_enter Tryz.func8,Tryz.ntmps8;go_wp2_with fail
   refine S.mono ?_;rintro e w1 ⟨⟨v,rfl,own⟩,hb1⟩;obtain ⟨av,cap,rfl,-⟩:=own.form;have hR0:=rs_new (b.size:Int) own hT3;have hbW:Below w.heap.size w (w1.alloc (.cells #[.slice av T.length cap,.int .i64 0,.int .i64 (b.size:Int),.int .i64 0,.int .i64 0] 60)):=ball hb1 _;have hz1:=hb1.size;clear own hb1;go_upto_region 5 with fail
   have S2:=LV (w1.heap.size+1) w1.heap.size (b.size:Int) T (w1.alloc (.cells #[.slice av T.length cap,.int .i64 0,.int .i64 (b.size:Int),.int .i64 0,.int .i64 0] 60)) (Nat.le_refl _) hT2 hR0;rw [hl] at S2;generalize w1.alloc (.cells #[.slice av T.length cap,.int .i64 0,.int .i64 (b.size:Int),.int .i64 0,.int .i64 0] 60)=W at *;obtain ⟨kp,hkp⟩:∃ kp,w1.heap.size=kp:=⟨_,rfl⟩
   rw [hkp] at S2 hR0 hz1 ⊢;have hsW:=hbW.size;clear S LV hkp;go_wp2_with fail
   refine S2.mono ?_;rintro e w2 ⟨hg2,vb,rfl,ownb,hRb⟩;obtain ⟨a,c1,c3,c4,-,hn1⟩:=rs_len hRb;have hal:=hn1 (by simp);have hali:(a:Int)<(T.length:Int):=by omega
   have F:=qfail_0 T.length (kp+1) kp (b.size:Int) 50 w2 _ hRb;have hBW0:Below w.heap.size w w2:=hbW.grown hg2 (by omega) (fun k e=>by have:=Option.some.inj e;omega);clear S2 hg2 ownb hn1;go_wp2_with fail
   refine F.mono ?_;rintro e w3 ⟨rfl,hR3,hg3⟩;have hBW:Below w.heap.size w w3:=hBW0.grown hg3 (by have:=hBW0.size;omega) (fun k e=>by have:=Option.some.inj e;omega);clear c1 c3 c4 hBW0;obtain ⟨a3,d1,d3,d4,-,-⟩:=rs_len hR3;go_wp2_with fail
   go_quiet (fail)
   have hb9:Below w3.heap.size w3 (w3.drewN nq):=below_drewN (Below.refl _ _) nq;go_wp2;go_ret3
   rw [HRES.out];exact ⟨rfl,(hBW).trans (hb9.mono hBW.size)⟩
theorem qparse_any (b:ByteArray) (w:World) (hs:b.size≤9223372036854775807):Calls Tryz.prog 8 #[.string b] w fun e w'=>PaPost w.heap.size (prsR b.data.toList) e w'∧Below w.heap.size w w':=by
 unfold prsR;cases hr:scanAll b.data.toList with
 | inr q =>
  obtain ⟨c,p⟩:=q;exact (qparse_err b w hs c p (scan_code hr) hr).mono fun e w' h=>⟨h.1,h.2⟩
 | inl ts =>
  have e:b.data.toList.length=b.size:=by rw [Array.length_toList];rfl
  rw [e];exact qparse_toks b w hs ts hr _ rfl
theorem prsR_row {l:List UInt8} {row:List Wt.Nd} (h:prsR l=.inl row):(∀ x ∈ row,Wt.FitN x)∧Wt.check row=0:=by
 unfold prsR at h;cases hr:scanAll l with
 | inr q =>
  obtain ⟨c',p'⟩:=q;rw [hr] at h;cases h
 | inl ts =>
  rw [hr] at h;simp only at h;have hok:∀ t ∈ ts.map Wlx.tv,TokOk t:=by
   unfold scanAll at hr;split at hr
   ·cases hr
   ·exact (scan_ok _ 0 l (Nat.le_refl _) (by omega) ts hr).2
  unfold prsT at h;cases hp:pall (lv (l.length:Int) (10 * (ts.map Wlx.tv).length+9) 0) (l.length:Int) (ts.map Wlx.tv) with
  | inr q=>rw [hp] at h;cases h
  | inl q =>
   obtain ⟨row',rr⟩:=q;rw [hp] at h;simp only at h;split at h
   ·rename_i hc
    simp only [Sum.inl.injEq] at h;subst h;refine ⟨?_,hc⟩;unfold pall at hp;split at hp
    ·cases hp
    ·rename_i row'' he
     simp only [Sum.inl.injEq,Prod.mk.injEq] at hp;rw [←hp.1];exact (lv_fit _ _ _ _ _ _ hok he).1
    ·cases hp
   ·cases h
theorem pa_both (B:Nat) (l:List UInt8):∃ (R:List Wt.Nd) (c p:Int),R.length≤256∧∀ (B:Nat) (e:Ending) (w:World),PaPost B (prsR l) e w→∃ v,e=.returned (.tuple #[v,.int .i64 c,.int .i64 p])∧OwnN w B v R:=by
 cases hr:prsR l with
 | inl row=>exact ⟨row,0,0,(check_zero (prsR_row hr).2).1,fun B e w h=>h⟩
 | inr q =>
  obtain ⟨c,p⟩:=q;exact ⟨[],c,p,by simp,fun B e w h=>⟨_,h,World.ownsRow_nil _ _ _ _⟩⟩
theorem tparses_main (b:ByteArray) (w:World) (hE:Env w) (hk8:8≤w.heap.size) (hs:b.size≤9223372036854775807) :
  Calls Tryz.prog 3 #[.string b] w fun e w'=>e=.returned (.bool true)∧Below w.heap.size w w':=by
 obtain ⟨R,c,p,h256,HP⟩:=pa_both 0 b.data.toList;have S1:=parse_any b w hE hs hk8;have S2:=fun w=>qparse_any b w hs
 have A:=fun w hE hk=>table_any w hE hk
 have HE:Hid (Env w):=hE;clear hE;go_enter Tryz.func3,Tryz.ntmps3;go_wp2_with fail
 refine S1.mono ?_;rintro e w1 ⟨hp1,hb1⟩;obtain ⟨v1,rfl,own1⟩:=HP _ _ _ hp1;have HO1:Hid (OwnN w1 w.heap.size v1 R):=own1;clear hp1 own1 S1;go_wp2_with fail
 refine (S2 _).mono ?_;rintro e w2 ⟨hp2,hb2⟩;obtain ⟨v2,rfl,own2⟩:=HP _ _ _ hp2;have hB2:=below_end hb1 hb2;have HO2:Hid (OwnN w2 w1.heap.size v2 R):=own2;have HO1':Hid (OwnN w2 w.heap.size v1 R):=HO1.out.below hb2;have A2:=A w2 (HE.out.below hB2) (Nat.le_trans hk8 hB2.size);clear hp2 own2 S2 HO1 A HP;go_wp2_with fail
 refine A2.mono ?_;rintro e w3 ⟨rfl,hb3⟩;have hB3:=below_end hB2 hb3;obtain ⟨a1,c1,rfl,hr1⟩:=(HO1'.out.below hb3).form;obtain ⟨a2,c2,rfl,hr2⟩:=(HO2.out.below hb3).form;have SA:=nsame_true a1 a2 c1 c2 R w3 hr1 hr2 (by omega);clear A2 HO1' HO2 hr1 hr2;go_wp2_with fail
 refine SA.mono ?_;rintro e w4 ⟨rfl,hb4⟩;have hB4:=below_end hB3 hb4;go_wp2;go_ret;exact ⟨rfl,hB4⟩
open Go.RowKit
theorem array_each {H:Type} {enc:TypeId × Value→H} {P:Program} {w:World} {base:Nat} {sp:Nat→Bool} {held:Bool} {fuel:Nat} {t e:TypeId} {n c:Nat} {cs:List Value} {ds:List (DataW H)} {p:List MemPlace}
  (ht:P.underlying t=some (.array n e)) (hce:P.cellsOf e=c) (hct:P.cellsOf t=n * c)
  (h:DataW.trod enc P w base sp held fuel t cs=some (.agg ds,p)):cs.length=n * c∧ds.length=n∧∀ i d,ds[i]? = some d→∃ fuel' p',DataW.trod enc P w base sp held fuel' e ((cs.drop (i * c)).take c)=some (d,p'):=by
 cases fuel with
 | zero=>simp [DataW.trod] at h
 | succ fuel =>
  simp only [DataW.trod,ht,hce,hct] at h;split at h
  ·rename_i hl
   obtain ⟨xs,hm,hx⟩:=Option.map_eq_some_iff.1 h;have hxs:xs.map (·.1)=ds:=by
    have:=congrArg Prod.fst hx;simpa using this
   have hxl:xs.length=n:=by simpa using Lib.mapM_length hm
   refine ⟨by simpa using hl,by rw [←hxs];simpa using hxl,fun i d hd=>?_⟩;have hi:i<n:=by
    have:=(List.getElem?_eq_some_iff.1 hd).1;rw [←hxs,List.length_map] at this;omega
   obtain ⟨b,hb,hf⟩:=Lib.mapM_at hm i i (by simp [hi]);have:(xs.map (·.1))[i]? = some b.1:=by simp [hb]
   rw [hxs,hd] at this;obtain rfl:=Option.some.inj this;exact ⟨fuel,b.2,hf⟩
  ·cases h
theorem ba_oL {s:ByteArray} {l:List UInt8} (h:s.data.toList=l):s=⟨l.toArray⟩:=by
 apply ByteArray.ext
 apply Array.ext'
 rw [h]
theorem flt_of {W:World} {rest:List (String × DataW Unit)} (h:laidMet Tryz.prog (("whittle/value.faultNames",.agg (fNames.map fun x=>.lit (.string x)))::rest) W):FltAt W:=by
 obtain ⟨ps,⟨g',t',cs,fuel,p,q,hg',ht',hvar,hd,_,_⟩,_⟩:=h;have hg:Tryz.prog.globalNamed "whittle/value.faultNames" = some 1:=by kernel_rfl
 have hty:(Tryz.prog.globals[1]?).map (·.type)=some 168:=by kernel_rfl
 obtain rfl:=Option.some.inj (hg.symm.trans hg');obtain rfl:=Option.some.inj (hty.symm.trans ht');obtain ⟨h1,h2,h3⟩:=array_each (n:=9) (c:=1) (e:=9) Tryz.underlying168 (by kernel_rfl) (by kernel_rfl) hd;intro j v hv;unfold fltR at hv;rw [List.getElem?_map] at hv;obtain ⟨x,hx,rfl⟩:=Option.map_eq_some_iff.1 hv;obtain ⟨fu,p',ht⟩:=h3 j (.lit (.string x)) (by rw [List.getElem?_map,hx];rfl);obtain ⟨s,e1,e2,_⟩:=DataW.trod_string Tryz.underlying9 ht;simp only [Prod.mk.injEq,DataW.lit.injEq,Lit.string.injEq] at e2;rw [Nat.zero_add,World.var?_cell hg hvar j];have:cs.toList[j]? = some (.string s):=by
  have:=congrArg (·[0]?) e1;simpa [List.getElem?_take,List.getElem?_drop] using this
 rw [Array.getElem?_toList] at this;rw [this,ba_oL e2.1.symm]
theorem flat3 {α β:Type} (f:α→List β) (hf:∀ x,(f x).length=3):∀ (l:List α) (i:Nat) (hi:i<l.length) (r:Nat),r<3→(l.flatMap f)[i * 3+r]? = (f l[i])[r]?
 | [],i,hi,r,hr=>absurd hi (Nat.not_lt_zero _)
 | x::l,0,hi,r,hr=>by
  rw [List.flatMap_cons,List.getElem?_append_left (by rw [hf];omega)];simp
 | x::l,i+1,hi,r,hr=>by
  rw [List.flatMap_cons,List.getElem?_append_right (by rw [hf];omega),hf,show (i+1) * 3+r - 3=i * 3+r by omega];rw [flat3 f hf l i (by simpa using hi) r hr];simp
theorem ops_of {W:World} {rest:List (String × DataW Unit)} (h:laidMet Tryz.prog (("whittle/tree.operators",.agg (Wt.opsT.map fun x=>.agg [.lit (.int .i64 x.1),.lit (.string x.2.1),.lit (.int .i64 x.2.2)]))::rest) W):OpsAt W:=by
 obtain ⟨ps,⟨g',t',cs,fuel,p,q,hg',ht',hvar,hd,_,_⟩,_⟩:=h;have hg:Tryz.prog.globalNamed "whittle/tree.operators" = some 0:=by kernel_rfl
 have hty:(Tryz.prog.globals[0]?).map (·.type)=some 137:=by kernel_rfl
 obtain rfl:=Option.some.inj (hg.symm.trans hg');obtain rfl:=Option.some.inj (hty.symm.trans ht');obtain ⟨h1,h2,h3⟩:=array_each (n:=15) (c:=3) (e:=118) Tryz.underlying137 (by kernel_rfl) (by kernel_rfl) hd;have c3:Tryz.prog.cellsOf 3=1:=by kernel_rfl
 have c9:Tryz.prog.cellsOf 9=1:=by kernel_rfl
 have key:∀ i x,Wt.opsT[i]? = some x→cs.toList[i * 3]? = some (.int .i64 x.1)∧cs.toList[i * 3+1]? = some (.string ⟨x.2.1.toArray⟩)∧cs.toList[i * 3+2]? = some (.int .i64 x.2.2):=by
  intro i x hx;obtain ⟨fu,p',ht⟩:=h3 i _ (by rw [List.getElem?_map,hx];rfl);obtain ⟨y0,y1,y2,n,e,-,t0,t1,t2⟩:=Deep.trod_struct3 Tryz.underlying118 ht;simp only [Prod.mk.injEq,DataW.agg.injEq,List.cons.injEq,and_true] at e;obtain ⟨z0,f0,g0,_⟩:=DataW.trod_int Tryz.underlying3 t0;obtain ⟨z1,f1,g1,_⟩:=DataW.trod_string Tryz.underlying9 t1;obtain ⟨z2,f2,g2,_⟩:=DataW.trod_int Tryz.underlying3 t2;subst g0 g1 g2;simp only [DataW.lit.injEq,Lit.int.injEq,Lit.string.injEq,true_and] at e;obtain ⟨⟨rfl,e1,rfl⟩,-⟩:=e;simp only [c3] at f0 f2;simp only [c9] at f1;have q0:=congrArg (·[0]?) f0;have q1:=congrArg (·[0]?) f1;have q2:=congrArg (·[0]?) f2;simp [List.getElem?_drop] at q0 q1 q2;refine ⟨?_,?_,?_⟩
  ·rw [Array.getElem?_toList];exact q0
  ·rw [Array.getElem?_toList,q1,ba_oL e1.symm]
  ·rw [Array.getElem?_toList];exact q2
 intro j v hv;rw [Nat.zero_add,World.var?_cell hg hvar j];have hj:j<45:=by
  have:=(List.getElem?_eq_some_iff.1 hv).1;have e:opsR.length=45:=rfl;omega
 have hi:j / 3<Wt.opsT.length:=by show j / 3<15;omega
 obtain ⟨k0,k1,k2⟩:=key (j / 3) _ (List.getElem?_eq_getElem hi);have hf:=flat3 (fun x:Int × List UInt8 × Int=>([.int .i64 x.1,.string ⟨x.2.1.toArray⟩,.int .i64 x.2.2]:List Value)) (fun _=>rfl) Wt.opsT (j / 3) hi;have hm:j % 3=0 ∨ j % 3=1 ∨ j % 3=2:=by omega
 rcases hm with hm | hm | hm
 ·have e:j=j / 3 * 3+0:=by omega
  have:=hf 0 (by decide);rw [←e] at this;rw [show opsR[j]? = _ from this] at hv;rw [show j=j / 3 * 3 by omega,←Array.getElem?_toList,k0];exact hv
 ·have e:j=j / 3 * 3+1:=by omega
  have:=hf 1 (by decide);rw [←e] at this;rw [show opsR[j]? = _ from this] at hv;rw [e,←Array.getElem?_toList,k1];exact hv
 ·have e:j=j / 3 * 3+2:=by omega
  have:=hf 2 (by decide);rw [←e] at this;rw [show opsR[j]? = _ from this] at hv;rw [e,←Array.getElem?_toList,k2];exact hv
end Go.Proofs.YtlggnpohhahdlaaGreatDoor
