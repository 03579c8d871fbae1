/- LScanB, TTok. -/
import Derived.Test.YtlggnpohhahdlaaGreatDoorQ22
import Derived.WalkMore
import Derived.Deep.LoopGhost
set_option maxHeartbeats 4000000
set_option maxRecDepth 100000
namespace Go.Proofs.YtlggnpohhahdlaaGreatDoor
open Go.Shelf Go.RowKit
set_option linter.unusedVariables false
theorem own_le {w:World} {B B':Nat} {v:Value} {ts:List Wlx.Tok} (h:OwnT w B v ts) (hb:B'≤B):OwnT w B' v ts :=
 ⟨h.1,h.2.imp id fun ⟨g,cap,cur,a,b,c⟩=>⟨g,cap,cur,a,Nat.le_trans hb b,c⟩⟩
theorem cell_three_new (w:World) (a b c:Value) (t:TypeId):∀ j u,[a,b,c][j]? = some u→(w.alloc (.cells #[a,b,c] t)).cell? ((⟨w.heap.size,0,none⟩:Addr).add j)=some u:=by
 intro j u hj;match j,hj with
 | 0,hj=>simp at hj;subst hj;simp [Addr.add]
 | 1,hj=>simp at hj;subst hj;simp [Addr.add]
 | 2,hj=>simp at hj;subst hj;simp [Addr.add]
 | j+3,hj=>simp at hj
theorem quo_more:∀ (l:List UInt8) (i:Nat),(0<Wlx.quo true i l→i+1≤Wlx.quo true i l)∧(0<Wlx.quo false i l→i≤Wlx.quo false i l):=by
 intro l;induction l with
 | nil=>intro i;exact ⟨fun h=>absurd h (by show ¬ 0<0;omega),fun _=>Nat.le_refl _⟩
 | cons c t ih =>
  intro i;obtain ⟨h1,h2⟩:=ih (i+1);by_cases hc:c=34
  ·subst hc;rw [quo_hit,quo_hit];exact ⟨h2,fun h=>Nat.le_of_succ_le (Nat.le_of_succ_le (h1 h))⟩
  ·rw [quo_in hc,quo_out hc];exact ⟨fun h=>by have:=h1 h;omega,fun _=>Nat.le_refl _⟩
theorem txt_two {l:List UInt8} (h:0<Wlx.sz 2 l):2≤Wlx.sz 2 l:=by
 cases l with
 | nil=>exact absurd h (by decide)
 | cons c t =>
  have e:Wlx.sz 2 (c::t)=if c=34 then Wlx.quo true 1 t else 0:=rfl
  rw [e] at h ⊢;by_cases hc:c=34
  ·rw [if_pos hc] at h ⊢;exact (quo_more t 1).1 h
  ·rw [if_neg hc] at h;omega
theorem scan_any (b:ByteArray) (w:World) (hm:MaxAt w) (hs:b.size≤9223372036854775807):Calls Tryz.prog 20 #[.string b] w fun e w'=>ScanPost w.heap.size (scanAll b.data.toList) e w'∧Below w.heap.size w w':=by
 by_cases hL:1024<b.size
 ·have E:Hid (scanAll b.data.toList=Wlx.Res.err 2 0):=by
   show _=_;unfold scanAll;rw [if_pos (by exact hL)]
  have hLi:(1024:Int)<(b.size:Int):=by omega
  go_enter Tryz.func20,Tryz.ntmps20;go_wp2;go_step3
  go_wp2;try rw [Exit.noGoto_ret]
  go_ret3
  refine ⟨?_,Below.refl _ _⟩;rw [E.out];rfl
 ·have E0:Hid (scanAll b.data.toList=Wlx.scan 0 b.data.toList):=by
   show _=_;unfold scanAll;rw [if_neg (by exact hL)]
  have hLi:¬ (1024:Int)<(b.size:Int):=by omega
  obtain ⟨R,hR⟩:∃ R,scanAll b.data.toList=R:=⟨_,rfl⟩
  rw [hR] at E0 ⊢;clear hR;obtain ⟨i0,hi,hz0,hz1,hz2⟩:=info_parts tokInfo;go_enter Tryz.func20,Tryz.ntmps20;go_wp2_with fail
  go_step3
  go_wp2_with fail
  go_step3
  go_wp2_with fail
  go_loopg [5,6] (b.size) (fun gk x y wr=>∃ (e pos q:Nat) (acc:List Wlx.Tok),y=.int .i64 e∧gk=b.size - pos∧pos≤q∧q≤b.size∧(pos<e→q=e)∧(¬ pos<e→q=pos)∧wr.heap[w.heap.size]? = some (.stringIter b pos) ∧
   Hid (R=Wlx.Res.pre acc (Wlx.scan q (b.data.toList.drop q)))∧Hid (∀ j,pos≤j→(hj:j<b.size)→j<q→(b[j]).toNat<128)∧Hid (OwnT wr (w.heap.size+1) x acc)∧acc.length≤q∧Below w.heap.size w wr)
  case atStart =>
   exact ⟨0,0,0,[],rfl,rfl,Nat.le_refl _,Nat.zero_le _,fun h=>absurd h (by omega),fun _=>rfl,World.iter_heap w b 0,E0,(fun j a _ c=>by omega:∀ j,0≤j→(hj:j<b.size)→j<0→(b[j]).toNat<128),(World.ownsRow_nil _ _ _ _:OwnT _ (w.heap.size+1) _ []),Nat.le_refl _,(Below.refl _ w).alloc (Nat.le_refl _) _⟩
  case round =>
   obtain ⟨lv,hlv⟩:∃ lv,lv=u5:=⟨u5,rfl⟩
   subst hlv;obtain ⟨e,pos,q,acc,rfl,hg,hpq,hqs,hq1,hq2,hit,HR,HA,HO,hac,hb⟩:=hrel;by_cases hlt:pos<b.size
   ·have nx:=fun ty=>Lib.run_next_any_at (P:=Tryz.prog) wr w.heap.size b pos ty hit hlt
    have hk2:=fun q=>Lib.iterAt_heap wr w.heap.size b pos q hit
    have hb2:=fun q=>Lib.below_iterAt hb (Nat.le_refl w.heap.size) b q
    have ho2:=fun q=>(ownsRow_iterAt HO.out (Nat.lt_succ_self _) b q:OwnT (wr.iterAt w.heap.size b q) (w.heap.size+1) lv acc)
    by_cases hpe:pos<e
    ·obtain rfl:=hq1 hpe;have hc:(b[pos]).toNat<128:=HA.out pos (Nat.le_refl _) hlt hpe;have e:=decode_ascii b pos hlt hc;rw [e] at nx;have hpi:(pos:Int)<(q:Int):=by omega
     have hi2:=hk2 (pos+1);have hbb:=hb2 (pos+1);have HO2:Hid (OwnT (wr.iterAt w.heap.size b (pos+1)) (w.heap.size+1) lv acc):=ho2 (pos+1);have HA2:Hid (∀ j,pos+1≤j→(hj:j<b.size)→j<q→(b[j]).toNat<128):=fun j a1 a2 a3=>HA.out j (by omega) a2 a3
     clear hk2 hb2 ho2 HA HO e;go_wp2_with fail
     go_roundg (b.size - (pos+1))
     case rel=>exact ⟨q,pos+1,q,acc,rfl,rfl,hpe,hqs,fun _=>rfl,fun _=>by omega,hi2,HR,HA2,HO2,hac,hbb⟩
     case measure=>omega
    ·obtain rfl:=hq2 hpe;have hpi:¬ (q:Int)<(e:Int):=by omega
     obtain ⟨rv,hrv⟩:∃ rv:Nat,(Utf8.decode b q).1=rv:=⟨_,rfl⟩
     obtain ⟨n,hn⟩:∃ n:Nat,(Utf8.decode b q).2=n:=⟨_,rfl⟩
     have facts:1≤n∧q+n≤b.size∧(((rv:Int) == 32)=true→b[q]=32∧n=1)∧(((rv:Int) == 32)=false→¬ b[q]=32)∧((b[q]).toNat<128→n=1):=by
      rcases rune_at b q hlt with ⟨h1,e⟩ | ⟨h1,e⟩
      ·rw [e] at hrv hn;simp only at hrv hn;subst hn hrv;refine ⟨Nat.le_refl _,hlt,fun h=>⟨UInt8.toNat_inj.1 (by have:=beq_iff_eq.1 h;show _=32;omega),rfl⟩,fun h h2=>?_,fun _=>rfl⟩;rw [h2] at h;exact absurd h (by decide)
      ·obtain ⟨w1,w2,w3⟩:=wide_bytes b q hlt h1;rw [hn] at w1 w2 w3;rw [hrv] at e;refine ⟨w1,w2,fun h=>by have:=beq_iff_eq.1 h;omega,fun h h2=>?_,fun h=>by omega⟩;rw [h2] at h1;exact absurd h1 (by decide)
     obtain ⟨f1,f2,f3,f4,f5⟩:=facts;rw [hrv,hn] at nx;clear hrv hn;have hi2:=hk2 (q+n);have hbb:=hb2 (q+n);have HO2:Hid (OwnT (wr.iterAt w.heap.size b (q+n)) (w.heap.size+1) lv acc):=ho2 (q+n);have hsz:(wr.iterAt w.heap.size b (q+n)).heap.size=wr.heap.size:=Lib.iterAt_size _ _ _ _;obtain ⟨W1,hW1⟩:∃ W1,wr.iterAt w.heap.size b (q+n)=W1:=⟨_,rfl⟩
     rw [hW1] at nx hi2 hbb HO2 hsz;clear hk2 hb2 ho2 HA HO hW1;have hd:=drop_at b q hlt;cases h32:((rv:Int) == 32) with
     | true =>
      obtain ⟨e32,rfl⟩:=f3 h32;have E:Hid (R=Wlx.Res.pre acc (Wlx.scan (q+1) (b.data.toList.drop (q+1)))):=by
       show _=_;rw [HR.out,hd,e32,Wlx.scan_blank]
      clear HR f3 f4 f5 e32 hd;go_wp2_with fail
      go_roundg (b.size - (q+1))
      case rel=>exact ⟨e,q+1,q+1,acc,rfl,rfl,Nat.le_refl _,hlt,fun h=>by omega,fun _=>rfl,hi2,E,(fun j a1 _ a3=>by omega:∀ j,q+1≤j→(hj:j<b.size)→j<q+1→(b[j]).toNat<128),HO2,by omega,hbb⟩
      case measure=>omega
     | false =>
      have hne:=f4 h32;have hmW:MaxAt W1:=MaxAt.below hm hbb;obtain ⟨c,hc⟩:∃ c,b[q]=c:=⟨_,rfl⟩
      obtain ⟨t,ht⟩:∃ t,b.data.toList.drop (q+1)=t:=⟨_,rfl⟩
      rw [hc] at hne f5 hd;rw [ht] at hd;have Hd:Hid (b.data.toList.drop q=c::t):=hd;have Hc:Hid (b[q]=c):=hc;have hlen:t.length+1+q=b.size:=by
       have:=congrArg List.length hd;simp only [List.length_drop,List.length_cons] at this;have e2:b.data.toList.length=b.size:=rfl;omega
      have Hne:Hid (¬ c=32):=hne;clear f3 f4 hd hc hne ht;have qc0:(0:Int)≤(q:Int):=by omega
      have qc1:(q:Int)≤(b.size:Int):=by omega
      go_wp2_with fail
      go_loopg [5,6,9] 5 (fun gk z y x wi=>∃ kd:Nat,x=.int .i64 kd∧y=.int .i64 e∧z=lv∧gk=6 - kd∧1≤kd∧kd≤6∧Hid (∀ j,1≤j→j<kd→Wlx.sz j (c::t)=0)∧Below W1.heap.size W1 wi)
      case atStart=>exact ⟨1,rfl,rfl,rfl,rfl,by omega,by omega,(fun j a1 a2=>by omega:∀ j,1≤j→j<1→Wlx.sz j (c::t)=0),Below.refl _ _⟩
      case round =>
       obtain ⟨kd,rfl,rfl,rfl,hg2,k1,k6,HZ,hbi⟩:=hrel;have si:=hbi.size;by_cases hk5:kd≤5
       ·obtain ⟨m,hmm⟩:∃ m,Wlx.sz kd (c::t)=m:=⟨_,rfl⟩
        have hml:m≤t.length+1:=by rw [←hmm];exact Wlx.sz_le kd (c::t)
        have SZ:=x4_size_any kd (b.extract q b.size) wr (by rw [ByteArray.size_extract];omega) k1 hk5;rw [ext_drop,Hd.out,hmm] at SZ;have Hm:Hid (Wlx.sz kd (c::t)=m):=hmm;clear hmm;by_cases m0:m=0
        ·subst m0;have HZ2:Hid (∀ j,1≤j→j<kd+1→Wlx.sz j (c::t)=0):=fun j a1 a2=>by
          by_cases h:j=kd
          ·rw [h];exact Hm.out
          ·exact HZ.out j a1 (by omega)
         clear HZ Hm;go_wp2_with fail
         refine SZ.mono ?_;rintro e1 w2 ⟨rfl,hb3⟩;go_wp2_with fail
         go_roundg (6 - (kd+1))
         case rel=>exact ⟨kd+1,by simp,rfl,rfl,rfl,by omega,by omega,HZ2,hbi.trans (hb3.mono hbi.size)⟩
         case measure=>omega
        ·have m0i:((m:Int) == 0)=false:=beq_eq_false_iff_ne.2 (by omega);have Hh:Hid (Wlx.hit (c::t)=kd):=Wlx.hit_first k1 hk5 (by rw [Hm.out];omega) HZ.out;have RP:=fun w=>run_print (b.extract q (q+m)) w (by rw [ByteArray.size_extract];omega)
         have ee:(b.extract q (q+m)).data.toList=(c::t).take m:=by rw [Lib.extract_data,Hd.out];congr 1;omega
         have es:(b.extract q (q+m)).size=m:=by rw [ByteArray.size_extract];omega
         have SD:=fun w hm=>said_any kd (b.extract q (q+m)) w hm (fun h=>by rw [es];subst h;rw [←Hm.out];exact txt_two (by rw [Hm.out];omega)) (by rw [es];omega)
         rw [ee] at RP SD;obtain ⟨gd,hgd⟩:∃ gd,Wlx.runP Wlx.prt ((c::t).take m)=gd:=⟨_,rfl⟩
         have hgl:gd≤m:=by
          rw [←hgd];have:=Wlx.runP_le Wlx.prt ((c::t).take m);rw [List.length_take] at this;omega
         rw [hgd] at RP;have qc2:(q:Int)+(m:Int)≤(b.size:Int):=by omega
         have qc3:(q:Int)≤(q:Int)+(m:Int):=by omega
         clear HZ ee es;by_cases hbad:gd<m
         ·have hbi2:(gd:Int)<(m:Int):=by omega
          have E:Hid (R=Wlx.Res.err 40 (q+gd)):=by
           show _=_
           rw [HR.out,Hd.out,Wlx.scan_bad Hne.out Hh.out (by omega) Hm.out (by rw [hgd];exact hbad),Wlx.Res.pre_err,hgd]
          clear HR Hh Hm hgd HO2;go_wp2_with fail
          refine SZ.mono ?_;rintro e1 w2 ⟨rfl,hb3⟩;go_wp2_with fail
          refine (RP _).mono ?_;rintro e1 w3 ⟨rfl,hb4⟩;go_wp2;try rw [Exit.noGoto_ret]
          go_ret3
          refine ⟨?_,?_⟩
          ·rw [E.out];exact congrArg (fun z=>Ending.returned (.tuple #[.slice none 0 0,.int .i64 40,.int .i64 z])) (by omega)
          ·exact hbb.trans ((hbi.trans ((hb3.trans (hb4.mono hb3.size)).mono si)).mono hbb.size)
         ·have hbi2:¬ (gd:Int)<(m:Int):=by omega
          have hall:=runP_all ((c::t).take m) (by rw [hgd,List.length_take];simp only [List.length_cons];omega);have hc128:c.toNat<128:=prt_low (hall c (by
           obtain ⟨m',rfl⟩:∃ m',m=m'+1:=⟨m - 1,by omega⟩
           simp))
          obtain rfl:=f5 hc128;have HA2:Hid (∀ j,q+1≤j→(hj:j<b.size)→j<q+m→(b[j]).toNat<128):=fun j a1 a2 a3=>prt_low (hall _ (by
           rw [←Hd.out];refine List.mem_iff_getElem?.2 ⟨j - q,?_⟩;rw [List.getElem?_take,if_pos (by omega),List.getElem?_drop,show q+(j - q)=j by omega];exact List.getElem?_eq_getElem (by exact a2)))
          obtain ⟨tx,htx⟩:∃ tx,Wlx.said kd ((c::t).take m)=tx:=⟨_,rfl⟩
          have E:Hid (R=Wlx.Res.pre (acc++[⟨kd,tx,q⟩]) (Wlx.scan (q+m) (b.data.toList.drop (q+m)))):=by
           show _=_
           rw [HR.out,Hd.out,Wlx.scan_tok Hne.out Hh.out (by omega) Hm.out (by rw [hgd];exact hbad),Wlx.Res.pre_snoc,htx,←Hd.out,List.drop_drop]
          rw [htx] at SD;clear HR Hh Hm hgd hall htx hc128 Hd Hc Hne f5;go_wp2_with fail
          refine SZ.mono ?_;rintro e1 w2 ⟨rfl,hb3⟩;go_wp2_with fail
          refine (RP _).mono ?_;rintro e1 w3 ⟨rfl,hb4⟩;have hb34:Below W1.heap.size W1 w3:=hbi.trans ((hb3.trans (hb4.mono hb3.size)).mono si);have HS:=SD w3 (MaxAt.below hmW hb34);clear SZ RP SD;go_wp2_with fail
          refine HS.mono ?_;rintro e1 w4 ⟨rfl,hb5⟩;have hb14:Below W1.heap.size W1 w4:=hb34.trans (hb5.mono hb34.size);have own4:OwnT w4 (w.heap.size+1) u5 acc:=own_below HO2.out hb14;have hi4:=iter_below hb14 hi2;have hb04:Below w.heap.size w w4:=hbb.trans (hb14.mono hbb.size);have s4:=hb04.size;have klt:w.heap.size<w4.heap.size:=(Array.getElem?_eq_some_iff.1 hi4).1;have own4l:=(own4.lt)
          clear HS HO2 hb3 hb4 hb5 hb34 hb14 hi2 hbb hbi;go_wp2_with (at_builtin;refine wpList_append_own _ rfl _ _ 46 rfl (w.heap.size+1) 79 i0 (.agg #[.int .i64 0,.string ⟨#[]⟩,.int .i64 0]) 3 32 Tryz.underlying46 hi hz0 hz1 hz2 rfl (by decide) _ _ _ rfl (own4.alloc _) ⟨w4.heap.size,0,none⟩ 1 1 [.int .i64 kd,.string ⟨tx.toArray⟩,.int .i64 q] rfl rfl (cell_three_new _ _ _ _ _) (by intro u hu;simp at hu;rcases hu with rfl | rfl | rfl <;> rfl) (by unfold maxLen;omega) (by omega) (by simp;omega) ?_)
          intro v2 w5 hown2 hgrow _;have hi5:w5.heap[w.heap.size]? = some (.stringIter b (q+1)):=iter_grown hgrow (by rw [Lib.alloc_old w4 _ _ klt];exact hi4) (fun h=>by have:=own4l _ h.symm;omega);have hb5:Below w.heap.size w w5:=(hb04.alloc (by omega) _).grown hgrow (by simp;omega) (fun k hk=>by have:=own4l _ hk;omega);have HO5:Hid (OwnT w5 (w.heap.size+1) v2 (acc++[⟨kd,tx,q⟩])):=by
           show w5.ownsRow _ _ 3 v2 (acc++[_]).length (rowT (acc++[_]))
           rw [List.length_append,rowT_snoc];exact hown2
          clear hown2 hgrow own4 own4l hi4 hb04;go_wp2_with fail
          go_roundg (b.size - (q+1))
          case rel=>exact ⟨q+m,q+1,q+m,acc++[⟨kd,tx,q⟩],by simp,rfl,by omega,by omega,fun _=>rfl,fun h=>by omega,hi5,E,HA2,HO5,by simp;omega,hb5⟩
          case measure=>omega
       ·obtain rfl:kd=6:=by omega
        have Hh:Hid (Wlx.hit (c::t)=6):=Wlx.hit_none fun j a1 a2=>HZ.out j a1 (by omega)
        have RF:=refusal_any (b.extract q b.size) wr (by rw [ByteArray.size_extract];omega);rw [ext_drop,Hd.out,begins_one] at RF;have e34:(if decide (34=c)=true then (41:Int) else 40)=((if c=34 then 41 else 40:Nat):Int):=by
         by_cases h:c=34
         ·subst h;rfl
         ·rw [if_neg (by simp;exact fun e=>h e.symm),if_neg h];rfl
        simp only [] at RF;rw [e34] at RF;have E:Hid (R=Wlx.Res.err (if c=34 then 41 else 40) q):=by
         show _=_
         rw [HR.out,Hd.out,Wlx.scan_none Hne.out Hh.out,Wlx.Res.pre_err]
        generalize (if c=34 then 41 else 40)=er at E RF;clear HR Hh HZ e34 Hd Hc Hne HO2;go_wp2_with fail
        refine RF.mono ?_;rintro e1 w2 ⟨rfl,rfl⟩;go_wp2;try rw [Exit.noGoto_ret]
        go_ret3
        refine ⟨?_,hbb.trans (hbi.mono hbb.size)⟩;rw [E.out];rfl
   ·have nx:=fun ty=>Lib.run_next_end_at (P:=Tryz.prog) wr w.heap.size b pos ty hit hlt
    have hqe:q=b.size:=by omega
    have E:Hid (R=Wlx.Res.ok acc):=by
     show _=_
     rw [HR.out,drop_end b q (by omega),Wlx.scan_nil,Wlx.Res.pre_ok,List.append_nil]
    have HO2:OwnT wr w.heap.size lv acc:=own_le HO.out (by omega);have HO3:Hid (OwnT wr w.heap.size lv acc):=HO2;clear HR HA HO HO2;go_wp2;try rw [Exit.noGoto_ret]
    go_ret3
    refine ⟨?_,hb⟩;rw [E.out];exact ⟨_,rfl,HO3.out⟩
open Go.RowKit Go.Shelf
theorem tbegins_take:∀ (p l:List UInt8),Wlx.begins p l=true→l.take p.length=p
 | [],_,_=>rfl
 | _::_,[],h=>by simp [Wlx.begins] at h
 | a::p,b::t,h=>by
  simp only [Wlx.begins,Bool.and_eq_true,decide_eq_true_eq] at h;simp only [List.length_cons,List.take_succ_cons,tbegins_take p t h.2,h.1]
theorem tnameSz_take (l:List UInt8):∀ (ns:List (List UInt8)),0<Wlx.nameSz l ns→l.take (Wlx.nameSz l ns) ∈ ns
 | [],h=>by simp [Wlx.nameSz] at h
 | n::r,h=>by
  unfold Wlx.nameSz at h ⊢;by_cases hb:Wlx.begins n l=true
  ·rw [if_pos hb,tbegins_take n l hb];simp
  ·rw [if_neg hb] at h ⊢;exact List.mem_cons_of_mem _ (tnameSz_take l r h)
theorem flt_name {x:List UInt8} (h:x ∈ Wlx.faults):∃ i,∃ h:i<9,1≤i∧x=fNames[i]'h:=by
 simp only [Wlx.faults,List.mem_cons,List.not_mem_nil,or_false] at h;rcases h with rfl | rfl | rfl | rfl | rfl | rfl | rfl | rfl
 ·exact ⟨1,by decide,by decide,rfl⟩
 ·exact ⟨2,by decide,by decide,rfl⟩
 ·exact ⟨3,by decide,by decide,rfl⟩
 ·exact ⟨4,by decide,by decide,rfl⟩
 ·exact ⟨5,by decide,by decide,rfl⟩
 ·exact ⟨6,by decide,by decide,rfl⟩
 ·exact ⟨7,by decide,by decide,rfl⟩
 ·exact ⟨8,by decide,by decide,rfl⟩
theorem undbl_length:∀ (n:Nat) (l:List UInt8),l.length≤n→(Wlx.undbl l).length≤l.length:=by
 intro n;induction n with
 | zero=>intro l h;obtain rfl:=List.eq_nil_of_length_eq_zero (Nat.le_zero.1 h);simp [Wlx.undbl]
 | succ n ih =>
  intro l h;match l,h with
  | [],_=>exact Nat.le_refl _
  | [c],_=>exact Nat.le_refl _
  | c::d::t,h =>
   simp only [List.length_cons] at h;rw [Wlx.undbl];split
   ·have:=ih t (by omega);simp only [List.length_cons];omega
   ·have:=ih (d::t) (by simp only [List.length_cons];omega);simp only [List.length_cons] at this ⊢;omega
theorem said_length (k:Nat) (l:List UInt8):(Wlx.said k l).length≤l.length:=by
 unfold Wlx.said;split
 ·have:=undbl_length _ ((l.drop 1).take (l.length - 2)) (Nat.le_refl _);have h2:((l.drop 1).take (l.length - 2)).length≤l.length:=by rw [List.length_take,List.length_drop];omega
  omega
 ·exact Nat.le_refl _
theorem scan_ok:∀ (n:Nat) (p:Nat) (l:List UInt8),l.length≤n→l.length≤1024→∀ ts,Wlx.scan p l=Wlx.Res.ok ts→ts.length≤l.length∧∀ t ∈ ts.map Wlx.tv,TokOk t:=by
 intro n;induction n with
 | zero=>intro p l h hl ts hs;obtain rfl:=List.eq_nil_of_length_eq_zero (Nat.le_zero.1 h);rw [Wlx.scan_nil] at hs;cases hs;simp
 | succ n ih =>
  intro p l h hl ts hs;cases l with
  | nil=>rw [Wlx.scan_nil] at hs;cases hs;simp
  | cons c t =>
   rw [Wlx.scan_cons] at hs;simp only [List.length_cons] at h hl ⊢;split at hs
   ·have:=ih _ t (by omega) (by omega) _ hs;exact ⟨by omega,this.2⟩
   split at hs
   ·cases hs
   rename_i h6
   split at hs
   ·cases hs
   have hp:=Wlx.hit_pos h6;have hle:=Wlx.sz_le (Wlx.hit (c::t)) (c::t);revert hs hp hle
   have hk4:Wlx.hit (c::t)=4→Wlx.sz (Wlx.hit (c::t)) (c::t)=Wlx.nameSz (c::t) Wlx.faults:=fun h=>by rw [h];rfl
   revert hk4
   generalize Wlx.hit (c::t)=k;generalize Wlx.sz k (c::t)=m;intro hk4 hs hp hle;simp only [List.length_cons] at hle;generalize hR:Wlx.scan (p+m) ((c::t).drop m)=R at hs;cases R with
   | inr q=>cases hs
   | inl us =>
    have hlen:((c::t).drop m).length≤n:=by rw [List.length_drop];simp only [List.length_cons];omega
    have:=ih (p+m) ((c::t).drop m) hlen (by rw [List.length_drop];simp only [List.length_cons];omega) us hR;simp only [Wlx.Res.cons,Wlx.Res.ok,Sum.inl.injEq] at hs;subst hs;rw [List.length_drop] at this;simp only [List.length_cons] at this;refine ⟨by simp only [List.length_cons];omega,fun t' ht=>?_⟩;rw [List.map_cons] at ht;rcases List.mem_cons.1 ht with rfl | ht
    ·refine ⟨?_,fun h4=>?_⟩
     ·have h1:=said_length k ((c::t).take m);rw [List.length_take] at h1;simp only [List.length_cons] at h1;show (Wlx.said k _).length≤_
      omega
     ·have h4:k=4:=by
       have h4':((k:Nat):Int)=4:=h4;omega
      subst h4;refine flt_name ?_;show Wlx.said 4 _ ∈ _
      have e:=hk4 rfl;subst e;exact tnameSz_take (c::t) Wlx.faults hp
    ·exact this.2 t' ht
end Go.Proofs.YtlggnpohhahdlaaGreatDoor
