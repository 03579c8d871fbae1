/- LScanB, TTok, TParB. -/
import Derived.Test.YtedifblompcdkaaGreatDoorQ37
set_option maxHeartbeats 8000000
set_option maxRecDepth 100000
namespace Go.Proofs.YtedifblompcdkaaGreatDoor
open Tryz
open Go.Shelf Go.RowKit
set_option linter.unusedVariables false
variable {B cap:Nat} {w:World} {v:Value} {ts:List Wlx.Tok} {l:List UInt8} {av:Option Addr}
theorem zPX {B':Nat} (h:zFK w B v ts) (hb:B'<=B):zFK w B' v ts :=
 ⟨h.1,h.2.imp id λ⟨g,cap,cur,a,b,c⟩=>⟨g,cap,cur,a,Nat.le_trans hb b,c⟩⟩
theorem zD5 (w:World) (a b c:Value) (t:TypeId):∀ j u,[a,b,c][j]? = some u->(w.alloc (.cells #[a,b,c] t)).cell? ((⟨w.heap.size,0,none⟩:Addr).add j)=some u:=by
 intro j u hj;match j,hj with
 | 0,hj=>simp at hj;subst hj;simp [Addr.add]
 | 1,hj=>simp at hj;subst hj;simp [Addr.add]
 | 2,hj=>simp at hj;subst hj;simp [Addr.add]
 | j+3,hj=>simp at hj
theorem zLE:∀ (l:List UInt8) (i:Nat),(0<Wlx.quo true i l->i+1<=Wlx.quo true i l)/\(0<Wlx.quo false i l->i<=Wlx.quo false i l):=by
 intro l;induction l with
 | nil=>intro i;exact ⟨λh=>absurd h (by show ¬ 0<0;omega),λ_=>Nat.le_refl _⟩
 | cons c t ih =>
  intro i;obtain ⟨h1,h2⟩:=ih (i+1);by_cases hc:c=34
  ·subst hc;rw [zET,zET];exact ⟨h2,λh=>Nat.le_of_succ_le (Nat.le_of_succ_le (h1 h))⟩
  ·rw [zNH hc,zK7 hc];exact ⟨λh=>by have:=h1 h;omega,λ_=>Nat.le_refl _⟩
theorem zON (h:0<Wlx.sz 2 l):2<=Wlx.sz 2 l:=by
 cases l with
 | nil=>exact absurd h (by decide)
 | cons c t =>
  have e:Wlx.sz 2 (c::t)=if c=34 then Wlx.quo true 1 t else 0:=rfl
  rw [e] at h ⊢;by_cases hc:c=34
  ·rw [if_pos hc] at h ⊢;exact (zLE t 1).1 h
  ·rw [if_neg hc] at h;omega
theorem zGa (b:ByteArray) (w:World) (hm:MaxAt w) (hs:b.size<=9223372036854775807):Calls prog 94 #[.string b] w λe w'=>zDy w.heap.size (zA7 b.data.toList) e w'/\Below w.heap.size w w':=by
 by_cases hL:1024<b.size
 ·have E:Hid (zA7 b.data.toList=Wlx.Res.err 2 0):=by
   show _=_;unfold zA7;rw [if_pos (by exact hL)]
  have hLi:(1024:Int)<(b.size:Int):=by omega
  go_enter func94,ntmps94;go_wp2;go_step3
  go_wp2;try rw [Exit.noGoto_ret]
  go_ret3
  refine ⟨?_,Below.refl _ _⟩;rw [E.out];rfl
 ·have E0:Hid (zA7 b.data.toList=Wlx.scan 0 b.data.toList):=by
   show _=_;unfold zA7;rw [if_neg (by exact hL)]
  have hLi:¬ (1024:Int)<(b.size:Int):=by omega
  obtain ⟨R,hR⟩:∃ R,zA7 b.data.toList=R:=⟨_,rfl⟩
  rw [hR] at E0 ⊢;clear hR;obtain ⟨i0,hi,hz0,hz1,hz2⟩:=info_parts zO8;go_enter func94,ntmps94;go_wp2_with fail
  go_step3
  go_wp2_with fail
  go_step3
  go_wp2_with fail
  go_loopg [5,6] (b.size) (λgk x y wr=>∃ (e pos q:Nat) (acc:List Wlx.Tok),y=.int .i64 e/\gk=b.size - pos/\pos<=q/\q<=b.size/\(pos<e->q=e)/\(¬ pos<e->q=pos)/\wr.heap[w.heap.size]? = some (.stringIter b pos) /\
   Hid (R=Wlx.Res.pre acc (Wlx.scan q (b.data.toList.drop q)))/\Hid (∀ j,pos<=j->(hj:j<b.size)->j<q->(b[j]).toNat<128)/\Hid (zFK wr (w.heap.size+1) x acc)/\acc.length<=q/\Below w.heap.size w wr)
  case atStart =>
   exact ⟨0,0,0,[],rfl,rfl,Nat.le_refl _,Nat.zero_le _,λh=>absurd h (by omega),λ_=>rfl,World.iter_heap w b 0,E0,(λj a _ c=>by omega:∀ j,0<=j->(hj:j<b.size)->j<0->(b[j]).toNat<128),(World.ownsRow_nil _ _ _ _:zFK _ (w.heap.size+1) _ []),Nat.le_refl _,(Below.refl _ w).alloc (Nat.le_refl _) _⟩
  case round =>
   obtain ⟨lv,hlv⟩:∃ lv,lv=u5:=⟨u5,rfl⟩
   subst hlv;obtain ⟨e,pos,q,acc,rfl,hg,hpq,hqs,hq1,hq2,hit,HR,HA,HO,hac,hb⟩:=hrel;by_cases hlt:pos<b.size
   ·have nx:=λty=>Lib.run_next_any_at (P:=prog) wr w.heap.size b pos ty hit hlt
    have hk2:=λq=>Lib.iterAt_heap wr w.heap.size b pos q hit
    have hb2:=λq=>Lib.below_iterAt hb (Nat.le_refl w.heap.size) b q
    have ho2:=λq=>(ownsRow_iterAt HO.out (Nat.lt_succ_self _) b q:zFK (wr.iterAt w.heap.size b q) (w.heap.size+1) lv acc)
    by_cases hpe:pos<e
    ·obtain rfl:=hq1 hpe;have hc:(b[pos]).toNat<128:=HA.out pos (Nat.le_refl _) hlt hpe;have e:=decode_ascii b pos hlt hc;rw [e] at nx;have hpi:(pos:Int)<(q:Int):=by omega
     have hi2:=hk2 (pos+1);have hbb:=hb2 (pos+1);have HO2:Hid (zFK (wr.iterAt w.heap.size b (pos+1)) (w.heap.size+1) lv acc):=ho2 (pos+1);have HA2:Hid (∀ j,pos+1<=j->(hj:j<b.size)->j<q->(b[j]).toNat<128):=λj a1 a2 a3=>HA.out j (by omega) a2 a3
     clear hk2 hb2 ho2 HA HO e;go_wp2_with fail
     go_roundg (b.size - (pos+1))
     case rel=>exact ⟨q,pos+1,q,acc,rfl,rfl,hpe,hqs,λ_=>rfl,λ_=>by omega,hi2,HR,HA2,HO2,hac,hbb⟩
     case measure=>omega
    ·obtain rfl:=hq2 hpe;have hpi:¬ (q:Int)<(e:Int):=by omega
     obtain ⟨rv,hrv⟩:∃ rv:Nat,(Utf8.decode b q).1=rv:=⟨_,rfl⟩
     obtain ⟨n,hn⟩:∃ n:Nat,(Utf8.decode b q).2=n:=⟨_,rfl⟩
     have facts:1<=n/\q+n<=b.size/\(((rv:Int) == 32)=true->b[q]=32/\n=1)/\(((rv:Int) == 32)=false->¬ b[q]=32)/\((b[q]).toNat<128->n=1):=by
      rcases zDE b q hlt with ⟨h1,e⟩ | ⟨h1,e⟩
      ·rw [e] at hrv hn;simp only at hrv hn;subst hn hrv;refine ⟨Nat.le_refl _,hlt,λh=>⟨UInt8.toNat_inj.1 (by have:=beq_iff_eq.1 h;show _=32;omega),rfl⟩,λh h2=>?_,λ_=>rfl⟩;rw [h2] at h;exact absurd h (by decide)
      ·obtain ⟨w1,w2,w3⟩:=zDd b q hlt h1;rw [hn] at w1 w2 w3;rw [hrv] at e;refine ⟨w1,w2,λh=>by have:=beq_iff_eq.1 h;omega,λh h2=>?_,λh=>by omega⟩;rw [h2] at h1;exact absurd h1 (by decide)
     obtain ⟨f1,f2,f3,f4,f5⟩:=facts;rw [hrv,hn] at nx;clear hrv hn;have hi2:=hk2 (q+n);have hbb:=hb2 (q+n);have HO2:Hid (zFK (wr.iterAt w.heap.size b (q+n)) (w.heap.size+1) lv acc):=ho2 (q+n);have hsz:(wr.iterAt w.heap.size b (q+n)).heap.size=wr.heap.size:=Lib.iterAt_size _ _ _ _;obtain ⟨W1,hW1⟩:∃ W1,wr.iterAt w.heap.size b (q+n)=W1:=⟨_,rfl⟩
     rw [hW1] at nx hi2 hbb HO2 hsz;clear hk2 hb2 ho2 HA HO hW1;have hd:=zAh b q hlt;cases h32:((rv:Int) == 32) with
     | true =>
      obtain ⟨e32,rfl⟩:=f3 h32;have E:Hid (R=Wlx.Res.pre acc (Wlx.scan (q+1) (b.data.toList.drop (q+1)))):=by
       show _=_;rw [HR.out,hd,e32,Wlx.scan_blank]
      clear HR f3 f4 f5 e32 hd;go_wp2_with fail
      go_roundg (b.size - (q+1))
      case rel=>exact ⟨e,q+1,q+1,acc,rfl,rfl,Nat.le_refl _,hlt,λh=>by omega,λ_=>rfl,hi2,E,(λj a1 _ a3=>by omega:∀ j,q+1<=j->(hj:j<b.size)->j<q+1->(b[j]).toNat<128),HO2,by omega,hbb⟩
      case measure=>omega
     | false =>
      have hne:=f4 h32;have hmW:MaxAt W1:=MaxAt.below hm hbb;obtain ⟨c,hc⟩:∃ c,b[q]=c:=⟨_,rfl⟩
      obtain ⟨t,ht⟩:∃ t,b.data.toList.drop (q+1)=t:=⟨_,rfl⟩
      rw [hc] at hne f5 hd;rw [ht] at hd;have Hd:Hid (b.data.toList.drop q=c::t):=hd;have Hc:Hid (b[q]=c):=hc;have hlen:t.length+1+q=b.size:=by
       have:=congrArg List.length hd;simp only [List.length_drop,List.length_cons] at this;have e2:b.data.toList.length=b.size:=rfl;omega
      have Hne:Hid (¬ c=32):=hne;clear f3 f4 hd hc hne ht;have qc0:(0:Int)<=(q:Int):=by omega
      have qc1:(q:Int)<=(b.size:Int):=by omega
      go_wp2_with fail
      go_loopg [5,6,9] 5 (λgk z y x wi=>∃ kd:Nat,x=.int .i64 kd/\y=.int .i64 e/\z=lv/\gk=6 - kd/\1<=kd/\kd<=6/\Hid (∀ j,1<=j->j<kd->Wlx.sz j (c::t)=0)/\Below W1.heap.size W1 wi)
      case atStart=>exact ⟨1,rfl,rfl,rfl,rfl,by omega,by omega,(λj a1 a2=>by omega:∀ j,1<=j->j<1->Wlx.sz j (c::t)=0),Below.refl _ _⟩
      case round =>
       obtain ⟨kd,rfl,rfl,rfl,hg2,k1,k6,HZ,hbi⟩:=hrel;have si:=hbi.size;by_cases hk5:kd<=5
       ·obtain ⟨m,hmm⟩:∃ m,Wlx.sz kd (c::t)=m:=⟨_,rfl⟩
        have hml:m<=t.length+1:=by rw [<-hmm];exact Wlx.sz_le kd (c::t)
        have SZ:=zGD kd (b.extract q b.size) wr (by rw [ByteArray.size_extract];omega) k1 hk5;rw [zCk,Hd.out,hmm] at SZ;have Hm:Hid (Wlx.sz kd (c::t)=m):=hmm;clear hmm;by_cases m0:m=0
        ·subst m0;have HZ2:Hid (∀ j,1<=j->j<kd+1->Wlx.sz j (c::t)=0):=λj a1 a2=>by
          by_cases h:j=kd
          ·rw [h];exact Hm.out
          ·exact HZ.out j a1 (by omega)
         clear HZ Hm;go_wp2_with fail
         refine SZ.mono ?_;rintro e1 w2 ⟨rfl,hb3⟩;go_wp2_with fail
         go_roundg (6 - (kd+1))
         case rel=>exact ⟨kd+1,by simp,rfl,rfl,rfl,by omega,by omega,HZ2,hbi.trans (hb3.mono hbi.size)⟩
         case measure=>omega
        ·have m0i:((m:Int) == 0)=false:=beq_eq_false_iff_ne.2 (by omega);have Hh:Hid (Wlx.hit (c::t)=kd):=Wlx.hit_first k1 hk5 (by rw [Hm.out];omega) HZ.out;have RP:=λw=>zIQ (b.extract q (q+m)) w (by rw [ByteArray.size_extract];omega)
         have ee:(b.extract q (q+m)).data.toList=(c::t).take m:=by rw [Lib.extract_data,Hd.out];congr 1;omega
         have es:(b.extract q (q+m)).size=m:=by rw [ByteArray.size_extract];omega
         have SD:=λw hm=>zLx kd (b.extract q (q+m)) w hm (λh=>by rw [es];subst h;rw [<-Hm.out];exact zON (by rw [Hm.out];omega)) (by rw [es];omega)
         rw [ee] at RP SD;obtain ⟨gd,hgd⟩:∃ gd,Wlx.runP Wlx.prt ((c::t).take m)=gd:=⟨_,rfl⟩
         have hgl:gd<=m:=by
          rw [<-hgd];have:=Wlx.runP_le Wlx.prt ((c::t).take m);rw [List.length_take] at this;omega
         rw [hgd] at RP;have qc2:(q:Int)+(m:Int)<=(b.size:Int):=by omega
         have qc3:(q:Int)<=(q:Int)+(m:Int):=by omega
         clear HZ ee es;by_cases hbad:gd<m
         ·have hbi2:(gd:Int)<(m:Int):=by omega
          have E:Hid (R=Wlx.Res.err 40 (q+gd)):=by
           show _=_
           rw [HR.out,Hd.out,Wlx.scan_bad Hne.out Hh.out (by omega) Hm.out (by rw [hgd];exact hbad),Wlx.Res.pre_err,hgd]
          clear HR Hh Hm hgd HO2;go_wp2_with fail
          refine SZ.mono ?_;rintro e1 w2 ⟨rfl,hb3⟩;go_wp2_with fail
          refine (RP _).mono ?_;rintro e1 w3 ⟨rfl,hb4⟩;go_wp2;try rw [Exit.noGoto_ret]
          go_ret3
          refine ⟨?_,?_⟩
          ·rw [E.out];exact congrArg (λz=>Ending.returned (.tuple #[.slice none 0 0,.int .i64 40,.int .i64 z])) (by omega)
          ·exact hbb.trans ((hbi.trans ((hb3.trans (hb4.mono hb3.size)).mono si)).mono hbb.size)
         ·have hbi2:¬ (gd:Int)<(m:Int):=by omega
          have hall:=zG6 ((c::t).take m) (by rw [hgd,List.length_take];simp only [List.length_cons];omega);have hc128:c.toNat<128:=zJ0 (hall c (by
           obtain ⟨m',rfl⟩:∃ m',m=m'+1:=⟨m - 1,by omega⟩
           simp))
          obtain rfl:=f5 hc128;have HA2:Hid (∀ j,q+1<=j->(hj:j<b.size)->j<q+m->(b[j]).toNat<128):=λj a1 a2 a3=>zJ0 (hall _ (by
           rw [<-Hd.out];refine List.mem_iff_getElem?.2 ⟨j - q,?_⟩;rw [List.getElem?_take,if_pos (by omega),List.getElem?_drop,show q+(j - q)=j by omega];exact List.getElem?_eq_getElem (by exact a2)))
          obtain ⟨tx,htx⟩:∃ tx,Wlx.said kd ((c::t).take m)=tx:=⟨_,rfl⟩
          have E:Hid (R=Wlx.Res.pre (acc++[⟨kd,tx,q⟩]) (Wlx.scan (q+m) (b.data.toList.drop (q+m)))):=by
           show _=_
           rw [HR.out,Hd.out,Wlx.scan_tok Hne.out Hh.out (by omega) Hm.out (by rw [hgd];exact hbad),Wlx.Res.pre_snoc,htx,<-Hd.out,List.drop_drop]
          rw [htx] at SD;clear HR Hh Hm hgd hall htx hc128 Hd Hc Hne f5;go_wp2_with fail
          refine SZ.mono ?_;rintro e1 w2 ⟨rfl,hb3⟩;go_wp2_with fail
          refine (RP _).mono ?_;rintro e1 w3 ⟨rfl,hb4⟩;have hb34:Below W1.heap.size W1 w3:=hbi.trans ((hb3.trans (hb4.mono hb3.size)).mono si);have HS:=SD w3 (MaxAt.below hmW hb34);clear SZ RP SD;go_wp2_with fail
          refine HS.mono ?_;rintro e1 w4 ⟨rfl,hb5⟩;have hb14:Below W1.heap.size W1 w4:=hb34.trans (hb5.mono hb34.size);have own4:zFK w4 (w.heap.size+1) u5 acc:=zKw HO2.out hb14;have hi4:=zHY hb14 hi2;have hb04:Below w.heap.size w w4:=hbb.trans (hb14.mono hbb.size);have s4:=hb04.size;have klt:w.heap.size<w4.heap.size:=(Array.getElem?_eq_some_iff.1 hi4).1;have own4l:=(own4.lt)
          clear HS HO2 hb3 hb4 hb5 hb34 hb14 hi2 hbb hbi;go_wp2_with (at_builtin;refine wpList_append_own _ rfl _ _ 170 rfl (w.heap.size+1) 219 i0 (.agg #[.int .i64 0,.string ⟨#[]⟩,.int .i64 0]) 3 32 underlying170 hi hz0 hz1 hz2 rfl (by decide) _ _ _ rfl (own4.alloc _) ⟨w4.heap.size,0,none⟩ 1 1 [.int .i64 kd,.string ⟨tx.toArray⟩,.int .i64 q] rfl rfl (zD5 _ _ _ _ _) (by intro u hu;simp at hu;rcases hu with rfl | rfl | rfl <;> rfl) (by unfold maxLen;omega) (by omega) (by simp;omega) ?_)
          intro v2 w5 hown2 hgrow _;have hi5:w5.heap[w.heap.size]? = some (.stringIter b (q+1)):=zHn hgrow (by rw [Lib.alloc_old w4 _ _ klt];exact hi4) (λh=>by have:=own4l _ h.symm;omega);have hb5:Below w.heap.size w w5:=(hb04.alloc (by omega) _).grown hgrow (by simp;omega) (λk hk=>by have:=own4l _ hk;omega);have HO5:Hid (zFK w5 (w.heap.size+1) v2 (acc++[⟨kd,tx,q⟩])):=by
           show w5.ownsRow _ _ 3 v2 (acc++[_]).length (zOV (acc++[_]))
           rw [List.length_append,zKU];exact hown2
          clear hown2 hgrow own4 own4l hi4 hb04;go_wp2_with fail
          go_roundg (b.size - (q+1))
          case rel=>exact ⟨q+m,q+1,q+m,acc++[⟨kd,tx,q⟩],by simp,rfl,by omega,by omega,λ_=>rfl,λh=>by omega,hi5,E,HA2,HO5,by simp;omega,hb5⟩
          case measure=>omega
       ·obtain rfl:kd=6:=by omega
        have Hh:Hid (Wlx.hit (c::t)=6):=Wlx.hit_none λj a1 a2=>HZ.out j a1 (by omega)
        have RF:=zGS (b.extract q b.size) wr (by rw [ByteArray.size_extract];omega);rw [zCk,Hd.out,zCS] at RF;have e34:(if decide (34=c)=true then (41:Int) else 40)=((if c=34 then 41 else 40:Nat):Int):=by
         by_cases h:c=34
         ·subst h;rfl
         ·rw [if_neg (by simp;exact λe=>h e.symm),if_neg h];rfl
        simp only [] at RF;rw [e34] at RF;have E:Hid (R=Wlx.Res.err (if c=34 then 41 else 40) q):=by
         show _=_
         rw [HR.out,Hd.out,Wlx.scan_none Hne.out Hh.out,Wlx.Res.pre_err]
        generalize (if c=34 then 41 else 40)=er at E RF;clear HR Hh HZ e34 Hd Hc Hne HO2;go_wp2_with fail
        refine RF.mono ?_;rintro e1 w2 ⟨rfl,rfl⟩;go_wp2;try rw [Exit.noGoto_ret]
        go_ret3
        refine ⟨?_,hbb.trans (hbi.mono hbb.size)⟩;rw [E.out];rfl
   ·have nx:=λty=>Lib.run_next_end_at (P:=prog) wr w.heap.size b pos ty hit hlt
    have hqe:q=b.size:=by omega
    have E:Hid (R=Wlx.Res.ok acc):=by
     show _=_
     rw [HR.out,zBQ b q (by omega),Wlx.scan_nil,Wlx.Res.pre_ok,List.append_nil]
    have HO2:zFK wr w.heap.size lv acc:=zPX HO.out (by omega);have HO3:Hid (zFK wr w.heap.size lv acc):=HO2;clear HR HA HO HO2;go_wp2;try rw [Exit.noGoto_ret]
    go_ret3
    refine ⟨?_,hb⟩;rw [E.out];exact ⟨_,rfl,HO3.out⟩
open Go.RowKit Go.Shelf
theorem zC0:∀ (p l:List UInt8),Wlx.begins p l=true->l.take p.length=p
 | [],_,_=>rfl
 | _::_,[],h=>by simp [Wlx.begins] at h
 | a::p,b::t,h=>by
  simp only [Wlx.begins,Bool.and_eq_true,decide_eq_true_eq] at h;simp only [List.length_cons,List.take_succ_cons,zC0 p t h.2,h.1]
theorem zC4 (l:List UInt8):∀ (ns:List (List UInt8)),0<Wlx.nameSz l ns->l.take (Wlx.nameSz l ns) ∈ ns
 | [],h=>by simp [Wlx.nameSz] at h
 | n::r,h=>by
  unfold Wlx.nameSz at h ⊢;by_cases hb:Wlx.begins n l=true
  ·rw [if_pos hb,zC0 n l hb];simp
  ·rw [if_neg hb] at h ⊢;exact List.mem_cons_of_mem _ (zC4 l r h)
theorem zLQ {x:List UInt8} (h:x ∈ Wlx.faults):∃ i,∃ h:i<9,1<=i/\x=fNames[i]'h:=by
 simp only [Wlx.faults,List.mem_cons,List.not_mem_nil,or_false] at h;rcases h with rfl | rfl | rfl | rfl | rfl | rfl | rfl | rfl
 ·exact ⟨1,by decide,by decide,rfl⟩
 ·exact ⟨2,by decide,by decide,rfl⟩
 ·exact ⟨3,by decide,by decide,rfl⟩
 ·exact ⟨4,by decide,by decide,rfl⟩
 ·exact ⟨5,by decide,by decide,rfl⟩
 ·exact ⟨6,by decide,by decide,rfl⟩
 ·exact ⟨7,by decide,by decide,rfl⟩
 ·exact ⟨8,by decide,by decide,rfl⟩
theorem zF1:∀ (n:Nat) (l:List UInt8),l.length<=n->(Wlx.undbl l).length<=l.length:=by
 intro n;induction n with
 | zero=>intro l h;obtain rfl:=List.eq_nil_of_length_eq_zero (Nat.le_zero.1 h);simp [Wlx.undbl]
 | succ n ih =>
  intro l h;match l,h with
  | [],_=>exact Nat.le_refl _
  | [c],_=>exact Nat.le_refl _
  | c::d::t,h =>
   simp only [List.length_cons] at h;rw [Wlx.undbl];split
   ·have:=ih t (by omega);simp only [List.length_cons];omega
   ·have:=ih (d::t) (by simp only [List.length_cons];omega);simp only [List.length_cons] at this ⊢;omega
theorem zGL (k:Nat) (l:List UInt8):(Wlx.said k l).length<=l.length:=by
 unfold Wlx.said;split
 ·have:=zF1 _ ((l.drop 1).take (l.length - 2)) (Nat.le_refl _);have h2:((l.drop 1).take (l.length - 2)).length<=l.length:=by rw [List.length_take,List.length_drop];omega
  omega
 ·exact Nat.le_refl _
theorem zJE:∀ (n:Nat) (p:Nat) (l:List UInt8),l.length<=n->l.length<=1024->∀ ts,Wlx.scan p l=Wlx.Res.ok ts->ts.length<=l.length/\∀ t ∈ ts.map Wlx.tv,zA5 t:=by
 intro n;induction n with
 | zero=>intro p l h hl ts hs;obtain rfl:=List.eq_nil_of_length_eq_zero (Nat.le_zero.1 h);rw [Wlx.scan_nil] at hs;cases hs;simp
 | succ n ih =>
  intro p l h hl ts hs;cases l with
  | nil=>rw [Wlx.scan_nil] at hs;cases hs;simp
  | cons c t =>
   rw [Wlx.scan_cons] at hs;simp only [List.length_cons] at h hl ⊢;split at hs
   ·have:=ih _ t (by omega) (by omega) _ hs;exact ⟨by omega,this.2⟩
   split at hs
   ·cases hs
   rename_i h6
   split at hs
   ·cases hs
   have hp:=Wlx.hit_pos h6;have hle:=Wlx.sz_le (Wlx.hit (c::t)) (c::t);revert hs hp hle
   have hk4:Wlx.hit (c::t)=4->Wlx.sz (Wlx.hit (c::t)) (c::t)=Wlx.nameSz (c::t) Wlx.faults:=λh=>by rw [h];rfl
   revert hk4
   generalize Wlx.hit (c::t)=k;generalize Wlx.sz k (c::t)=m;intro hk4 hs hp hle;simp only [List.length_cons] at hle;generalize hR:Wlx.scan (p+m) ((c::t).drop m)=R at hs;cases R with
   | inr q=>cases hs
   | inl us =>
    have hlen:((c::t).drop m).length<=n:=by rw [List.length_drop];simp only [List.length_cons];omega
    have:=ih (p+m) ((c::t).drop m) hlen (by rw [List.length_drop];simp only [List.length_cons];omega) us hR;simp only [Wlx.Res.cons,Wlx.Res.ok,Sum.inl.injEq] at hs;subst hs;rw [List.length_drop] at this;simp only [List.length_cons] at this;refine ⟨by simp only [List.length_cons];omega,λt' ht=>?_⟩;rw [List.map_cons] at ht;rcases List.mem_cons.1 ht with rfl | ht
    ·refine ⟨?_,λh4=>?_⟩
     ·have h1:=zGL k ((c::t).take m);rw [List.length_take] at h1;simp only [List.length_cons] at h1;show (Wlx.said k _).length<=_
      omega
     ·have h4:k=4:=by
       have h4':((k:Nat):Int)=4:=h4;omega
      subst h4;refine zLQ ?_;show Wlx.said 4 _ ∈ _
      have e:=hk4 rfl;subst e;exact zC4 (c::t) Wlx.faults hp
    ·exact this.2 t' ht
def zLD (en:Int) (ts:List Wlx.TV):List Wt.Nd ⊕ (Int × Int):=match zJQ (lv en (10 * ts.length+9) 0) en ts with
 | .inr e=>.inr e
 | .inl (row,_)=>if Wt.check row=0 then .inl row else .inr (Wt.check row,0)
def zIO (l:List UInt8):List Wt.Nd ⊕ (Int × Int):=match zA7 l with
 | .inr (c,p)=>.inr ((c:Int),(p:Int))
 | .inl ts=>zLD (l.length:Int) (ts.map Wlx.tv)
def OwnN (w:World) (B:Nat) (v:Value) (row:List Wt.Nd):Prop:=w.ownsRow B 102 20 v row.length (zBf row)
def zFO (B:Nat) (r:List Wt.Nd ⊕ (Int × Int)) (e:Ending) (w:World):Prop:=match r with
 | .inl row=>∃ v,e=.returned (.tuple #[v,.int .i64 0,.int .i64 0])/\OwnN w B v row
 | .inr (c,p)=>e=.returned (.tuple #[.slice none 0 0,.int .i64 c,.int .i64 p])
theorem zB0 (x:Wt.Nd):(zAK x).length=20:=rfl
theorem zJy (l:List Wt.Nd):∀ (i:Nat) (h:i<l.length) (j:Nat),j<20->(zBf l)[i * 20+j]? = (zAK (l[i]))[j]?:=by
 induction l with
 | nil=>intro i h;exact absurd h (Nat.not_lt_zero _)
 | cons x r ih =>
  intro i h j hj;have e:zBf (x::r)=zAK x++zBf r:=by simp [zBf]
  rw [e];cases i with
  | zero=>rw [List.getElem?_append_left (by rw [zB0];omega)];simp
  | succ i =>
   rw [List.getElem?_append_right (by rw [zB0];omega),zB0,show (i+1) * 20+j - 20=i * 20+j by omega];rw [ih i (by simpa using h) j hj];simp
theorem OwnN.form {row:List Wt.Nd} (h:OwnN w B v row):∃ av cap,v=.slice av row.length cap/\RdN w av row:=by
 rcases h.2 with ⟨rfl,h0⟩ | ⟨g,cap,cur,rfl,hr⟩
 ·exact ⟨none,0,by rw [h0],λi hi=>by omega⟩
 ·refine ⟨_,cap,rfl,λi hi=>⟨g,0,rfl,λj u hu=>?_⟩⟩;have hj:j<20:=by
   rcases Nat.lt_or_ge j 20 with h1 | h1
   ·exact h1
   ·rw [List.getElem?_eq_none (by rw [zB0];exact h1)] at hu;cases hu
  rw [Nat.zero_add,World.ownsRow.cellAt h _ (by omega),zJy row i hi j hj];exact hu
theorem OwnN.rd {n:Nat} {row:List Wt.Nd} (h:OwnN w B (.slice av n cap) row):RdN w av row:=by
 obtain ⟨av',cap',e,hr⟩:=h.form;simp only [Value.slice.injEq] at e;rw [e.1];exact hr
theorem OwnN.below {w':World} {row:List Wt.Nd} (h:OwnN w B v row) (hb:Below w.heap.size w w'):OwnN w' B v row :=
 h.kept (row:=none) ⟨hb.os,hb.tape,hb.output,hb.size,λk hk _=>hb.block k hk⟩ (by cases v.ownBlock <;> simp)
theorem zQ7 (W:World) (tm:Array Value) (bl bc ba:Nat) (v:Value) (c p:Int) (hv:v.oneCell'=true) (h2:tm.getD 2 undef=.pointer (some ⟨bl,0,none⟩)) (h3:tm.getD 3 undef=.pointer (some ⟨bc,0,none⟩)) (h4:tm.getD 4 undef=.pointer (some ⟨ba,0,none⟩))
  (hl:AtL W bl [v]) (hc:AtL W bc [.int .i64 c]) (ha:AtL W ba [.int .i64 p]):(results Tryz.f73 tm).run prog W=.ok (.tuple #[v,.int .i64 c,.int .i64 p]) W:=by
 have l0:=hl.2.1 0 _ rfl;have c0:=hc.2.1 0 _ rfl;have a0:=ha.2.1 0 _ rfl;have h2':tm[2]?.getD undef=.pointer (some ⟨bl,0,none⟩):=by rw [<-h2];simp
 have h3':tm[3]?.getD undef=.pointer (some ⟨bc,0,none⟩):=by rw [<-h3];simp
 have h4':tm[4]?.getD undef=.pointer (some ⟨ba,0,none⟩):=by rw [<-h4];simp
 simp [results,results73,go_sem,h2',h3',h4',l0,c0,a0]
theorem zIf (b:ByteArray) (w:World) (hE:Env w) (hs:b.size<=9223372036854775807) (c p:Nat) (hc:c ≠ 0) (hr:zA7 b.data.toList=.inr (c,p)):CR 73 #[.string b] w (.tuple #[.slice none 0 0,.int .i64 c,.int .i64 p]):=by
 have S:=λw hm=>zGa b w hm hs
 rw [hr] at S;simp only [zDy] at S;have hE3:=((hE.below (zAH (Below.refl _ w) (.cells #[.slice none 0 0] 104))).below (zAH (Below.refl _ _) (.cells #[.int .i64 0] 43))).below (zAH (Below.refl _ _) (.cells #[.int .i64 0] 3));have hB0:=zAH (zAH (zAH (Below.refl _ w) (.cells #[.slice none 0 0] 104)) (.cells #[.int .i64 0] 43)) (.cells #[.int .i64 0] 3);have hmf:∀ (fn:Fn) (first cap:Array Value) (w:World),(Instr.makeFunc fn first cap).run prog w=.ok (.func fn first cap) w:=λ_ _ _ _=>rfl
 have pl0:=((AtL.new0 w 104 [.slice none 0 0]).alloc (.cells #[.int .i64 0] 43)).alloc (.cells #[.int .i64 0] 3);have pc0:=(AtL.new1 w (.cells #[.slice none 0 0] 104) 43 [.int .i64 0]).alloc (.cells #[.int .i64 0] 3);have pa0:AtL (((w.alloc (.cells #[.slice none 0 0] 104)).alloc (.cells #[.int .i64 0] 43)).alloc (.cells #[.int .i64 0] 3)) (w.heap.size+1+1) [.int .i64 0]:=AtL.new _ 3 (by simp only [World.size_alloc]) _;generalize hW0:((w.alloc (.cells #[.slice none 0 0] 104)).alloc (.cells #[.int .i64 0] 43)).alloc (.cells #[.int .i64 0] 3)=W0 at hE3 hB0 pl0 pc0 pa0;have hci:((c:Int) != 0)=true:=by simp;omega
 go_enter_defers func73,ntmps73
 go_wp2_with fail
 refine (S _ hE3.2.2.1).mono ?_;rintro e w1 ⟨rfl,hb⟩;have pl1:=pl0.below hb;have pc1:=pc0.below hb;have pa1:=pa0.below hb;have hB1:=zAA hB0 hb;clear hb hW0 pl0 pc0 pa0 hB0 hE3 S;have l1:=pl1.2.1 0 _ rfl;have c1:=pc1.2.1 0 _ rfl;have a1:=pa1.2.1 0 _ rfl;have fl1:=pl1.2.2 0 (by simp);have fc1:=pc1.2.2 0 (by simp);have fa1:=pa1.2.2 0 (by simp);go_wp2;go_region
 go_wp2;have pl2:=(AtL.far (AtL.far ((AtL.far (AtL.far (pl1) (j:=w.heap.size+1) (by omega) 0 (.int .i64 c)) (j:=w.heap.size+1+1) (by omega) 0 (.int .i64 p)).set 0 (.slice none 0 0)) (j:=w.heap.size+1) (by omega) 0 (.int .i64 c)) (j:=w.heap.size+1+1) (by omega) 0 (.int .i64 p)).drew;have pc2:=(AtL.far ((AtL.far (AtL.far ((pc1).set 0 (.int .i64 c)) (j:=w.heap.size+1+1) (by omega) 0 (.int .i64 p)) (j:=w.heap.size) (by omega) 0 (.slice none 0 0)).set 0 (.int .i64 c)) (j:=w.heap.size+1+1) (by omega) 0 (.int .i64 p)).drew;have pa2:=((AtL.far (AtL.far ((AtL.far (pa1) (j:=w.heap.size+1) (by omega) 0 (.int .i64 c)).set 0 (.int .i64 p)) (j:=w.heap.size) (by omega) 0 (.slice none 0 0)) (j:=w.heap.size+1) (by omega) 0 (.int .i64 c)).set 0 (.int .i64 p)).drew;have hB2:=((((((hB1).setCell (p:=⟨w.heap.size+1,0,none⟩) (show w.heap.size<=w.heap.size+1 by omega) (.int .i64 c)).setCell (p:=⟨w.heap.size+1+1,0,none⟩) (show w.heap.size<=w.heap.size+1+1 by omega) (.int .i64 p)).setCell (p:=⟨w.heap.size,0,none⟩) (show w.heap.size<=w.heap.size by omega) (.slice none 0 0)).setCell (p:=⟨w.heap.size+1,0,none⟩) (show w.heap.size<=w.heap.size+1 by omega) (.int .i64 c)).setCell (p:=⟨w.heap.size+1+1,0,none⟩) (show w.heap.size<=w.heap.size+1+1 by omega) (.int .i64 p)).drew;generalize ((((((w1).setCell ⟨w.heap.size+1,0,none⟩ (.int .i64 c)).setCell ⟨w.heap.size+1+1,0,none⟩ (.int .i64 p)).setCell ⟨w.heap.size,0,none⟩ (.slice none 0 0)).setCell ⟨w.heap.size+1,0,none⟩ (.int .i64 c)).setCell ⟨w.heap.size+1+1,0,none⟩ (.int .i64 p)).drew=W2 at *
 simp [bodyPostD,Leaves];exact ⟨_,zQ7 _ _ _ _ _ _ _ _ rfl rfl rfl rfl pl2 pc2 pa2,rfl,hB2⟩
theorem PSt.new {W:World} {kp:Nat} {en:Int} (hO:zFK W B (.slice av ts.length cap) ts) (hk:kp=W.heap.size):PSt (W.alloc (.cells #[.slice av ts.length cap,.int .i64 en] 177)) kp (ts.map Wlx.tv) en:=by
 subst hk;have hv:=OwnV.of hO;have hR:=RdV.own hv;have hcap:ts.length<=cap:=by
  rcases hO.2 with ⟨e,h0⟩ | ⟨g,cap',cur,e,hg,hc,h1,_⟩
  ·omega
  ·simp only [Value.slice.injEq] at e;omega
 refine ⟨av,cap,by rw [List.length_map];exact hcap,by rw [List.length_map];exact AtL.new0 W 177 [.slice av ts.length cap,.int .i64 en],λi hi=>?_⟩;obtain ⟨g,e,hlt,c0,c1,c2⟩:=hR i hi;have hb:=zAH (Below.refl _ W) (.cells #[.slice av ts.length cap,.int .i64 en] 177);exact ⟨g,0,e,hlt,by rw [Nat.zero_add];exact zAC hb c0,by rw [Nat.zero_add];exact zAC hb c1,by rw [Nat.zero_add];exact zAC hb c2⟩
theorem zHv (b:ByteArray) (w:World) (hE:Env w) (hs:b.size<=9223372036854775807) (ts:List Wlx.Tok) (hk8:8<=w.heap.size) (hr:zA7 b.data.toList=.inl ts):Calls prog 73 #[.string b] w λe w'=>zFO w.heap.size (zLD (b.size:Int) (ts.map Wlx.tv)) e w'/\Below w.heap.size w w':=by
 have S:=λw hm=>zGa b w hm hs
 have hbl:b.data.toList.length=b.size:=by rw [Array.length_toList];rfl
 have hT:ts.length<=1024/\∀ t ∈ ts.map Wlx.tv,zA5 t:=by
  unfold zA7 at hr;split at hr
  ·cases hr
  ·rename_i h
   have:=zJE _ 0 b.data.toList (Nat.le_refl _) (by omega) ts hr;exact ⟨by omega,this.2⟩
 have hb1024:b.size<=1024:=by
  unfold zA7 at hr;split at hr
  ·cases hr
  ·omega
 obtain ⟨hn,hok⟩:=hT;rw [hr] at S;simp only [zDy] at S;clear hr hbl;obtain ⟨R,hR⟩:∃ R,R=zLD (b.size:Int) (ts.map Wlx.tv):=⟨_,rfl⟩
 rw [<-hR];have HR:Hid (R=zLD (b.size:Int) (ts.map Wlx.tv)):=hR;clear hR;have hE3:=((hE.below (zAH (Below.refl _ w) (.cells #[.slice none 0 0] 104))).below (zAH (Below.refl _ _) (.cells #[.int .i64 0] 43))).below (zAH (Below.refl _ _) (.cells #[.int .i64 0] 3));have hB0:=zAH (zAH (zAH (Below.refl _ w) (.cells #[.slice none 0 0] 104)) (.cells #[.int .i64 0] 43)) (.cells #[.int .i64 0] 3);have hmf:∀ (fn:Fn) (first cap:Array Value) (w:World),(Instr.makeFunc fn first cap).run prog w=.ok (.func fn first cap) w:=λ_ _ _ _=>rfl
 have pl0:=((AtL.new0 w 104 [.slice none 0 0]).alloc (.cells #[.int .i64 0] 43)).alloc (.cells #[.int .i64 0] 3);have pc0:=(AtL.new1 w (.cells #[.slice none 0 0] 104) 43 [.int .i64 0]).alloc (.cells #[.int .i64 0] 3);have pa0:AtL (((w.alloc (.cells #[.slice none 0 0] 104)).alloc (.cells #[.int .i64 0] 43)).alloc (.cells #[.int .i64 0] 3)) (w.heap.size+1+1) [.int .i64 0]:=AtL.new _ 3 (by simp only [World.size_alloc]) _;generalize hW0:((w.alloc (.cells #[.slice none 0 0] 104)).alloc (.cells #[.int .i64 0] 43)).alloc (.cells #[.int .i64 0] 3)=W0 at hE3 hB0 pl0 pc0 pa0;have hs0:W0.heap.size=w.heap.size+1+1+1:=by rw [<-hW0];simp only [World.size_alloc]
 go_enter_defers func73,ntmps73
 go_wp2_with fail
 refine (S _ hE3.2.2.1).mono ?_;rintro e w1 ⟨⟨v,rfl,hO⟩,hb⟩;have pl1:=pl0.below hb;have pc1:=pc0.below hb;have pa1:=pa0.below hb;have hB1:=zAA hB0 hb;have hs1:=hb.size;clear hb hW0 pl0 pc0 pa0 hB0 hE3 S;have l1:=pl1.2.1 0 _ rfl;have c1:=pc1.2.1 0 _ rfl;have a1:=pa1.2.1 0 _ rfl;have fl1:=pl1.2.2 0 (by simp);have fc1:=pc1.2.2 0 (by simp);have fa1:=pa1.2.2 0 (by simp);obtain ⟨av,cap,hv,-⟩:=(OwnV.of hO).form;rw [List.length_map] at hv;subst hv;have hOl:=hO.lt;rw [hs0] at hOl hs1;have hO2:zFK ((w1.setCell ⟨w.heap.size+1,0,none⟩ (.int .i64 0)).setCell ⟨w.heap.size+1+1,0,none⟩ (.int .i64 0)) W0.heap.size (.slice av ts.length cap) ts :=
  World.ownsRow.kept (World.ownsRow.kept hO (zA0 w1 (w.heap.size+1) 0 _) (Or.inr (λe=>by have:=(hOl _ e).1;omega))) (zA0 _ (w.heap.size+1+1) 0 _) (Or.inr (λe=>by have:=(hOl _ e).1;omega))
 have hP3:=PSt.new (kp:=w1.heap.size) (en:=(b.size:Int)) hO2 (by simp only [World.size_setCell]);have pl3:=AtL.alloc (AtL.far (AtL.far (pl1) (j:=w.heap.size+1) (by omega) 0 (.int .i64 0)) (j:=w.heap.size+1+1) (by omega) 0 (.int .i64 0)) (.cells #[.slice av ts.length cap,.int .i64 (b.size:Int)] 177);have pc3:=AtL.alloc (AtL.far ((pc1).set 0 (.int .i64 0)) (j:=w.heap.size+1+1) (by omega) 0 (.int .i64 0)) (.cells #[.slice av ts.length cap,.int .i64 (b.size:Int)] 177);have pa3:=AtL.alloc ((AtL.far (pa1) (j:=w.heap.size+1) (by omega) 0 (.int .i64 0)).set 0 (.int .i64 0)) (.cells #[.slice av ts.length cap,.int .i64 (b.size:Int)] 177);have hB3:=zAH (((hB1).setCell (p:=⟨w.heap.size+1,0,none⟩) (show w.heap.size<=w.heap.size+1 by omega) (.int .i64 0)).setCell (p:=⟨w.heap.size+1+1,0,none⟩) (show w.heap.size<=w.heap.size+1+1 by omega) (.int .i64 0)) (.cells #[.slice av ts.length cap,.int .i64 (b.size:Int)] 177);have hs3:((((w1).setCell ⟨w.heap.size+1,0,none⟩ (.int .i64 0)).setCell ⟨w.heap.size+1+1,0,none⟩ (.int .i64 0)).alloc (.cells #[.slice av ts.length cap,.int .i64 (b.size:Int)] 177)).heap.size=w1.heap.size+1:=by simp only [World.size_alloc,World.size_setCell]
 generalize hW3:(((w1).setCell ⟨w.heap.size+1,0,none⟩ (.int .i64 0)).setCell ⟨w.heap.size+1+1,0,none⟩ (.int .i64 0)).alloc (.cells #[.slice av ts.length cap,.int .i64 (b.size:Int)] 177)=W3 at hP3 pl3 pc3 pa3 hB3 hs3;have hE3:=hE.below hB3;have hlen:(ts.map Wlx.tv).length=ts.length:=List.length_map ..;have AL:=zOd w1.heap.size (b.size:Int) (lv (b.size:Int) (10 * (ts.map Wlx.tv).length+9) 0) (ts.map Wlx.tv).length (zHw w1.heap.size (b.size:Int) (by omega) _) (zC6 _ _ _) (ts.map Wlx.tv) W3 hP3 (Nat.le_refl _) (by omega) hok hE3;have hfit:=λrow r h=>zNP (b.size:Int) (10 * (ts.map Wlx.tv).length+9) 0 (ts.map Wlx.tv) row r hok h
 clear hO hO2 hOl hP3 hE3 hok;cases hpa:zJQ (lv (b.size:Int) (10 * (ts.map Wlx.tv).length+9) 0) (b.size:Int) (ts.map Wlx.tv) with
 | inr q =>
  obtain ⟨c,p⟩:=q;rw [hpa] at AL;simp only [zAQ] at AL;go_wp2_with fail
  refine AL.mono ?_;rintro e w4 ⟨rfl,hg⟩;have pl4:=pl3.grown hg (λe=>by have:=Option.some.inj e;omega);have pc4:=pc3.grown hg (λe=>by have:=Option.some.inj e;omega);have pa4:=pa3.grown hg (λe=>by have:=Option.some.inj e;omega);have hB4:Below w.heap.size w w4:=hB3.grown hg (by have:=hB3.size;omega) (λk e=>by have:=Option.some.inj e;omega);clear hg hW3 pl3 pc3 pa3 hB3 AL pl1 pc1 pa1 hfit;unfold zB2;have HR2:Hid (R=.inr (c,p)):=by
   show R=_
   rw [HR.out];unfold zLD;rw [hpa]
  clear HR hpa;go_wp2;refine leaves_cons (f:=95) (args:=#[.pointer (some ⟨w.heap.size,0,none⟩),.pointer (some ⟨w.heap.size+1,0,none⟩),.pointer (some ⟨w.heap.size+1+1,0,none⟩)]) (by simp) (by simp [go_sem]) ?_;refine (zEq _ _ _ c p _ _ _ [] _ pl4 pc4 pa4 (by omega) (by omega) (by omega)).mono ?_;rintro e u' w5 ⟨rfl,rfl,pl5,pc5,pa5,hb⟩;have hB5:Below w.heap.size w w5:=hB4.trans (hb _ (Nat.le_refl _) (by omega) (by omega));rw [HR2.out];simp only [zFO];simp [Leaves,settle];exact ⟨_,zQ7 _ _ _ _ _ _ _ _ rfl rfl rfl rfl pl5 pc5 pa5,rfl,hB5⟩
 | inl q =>
  obtain ⟨row,rr⟩:=q;have hrow:(∀ x ∈ row,Wt.FitN x)/\row.length<=1024:=by
   unfold zJQ at hpa;split at hpa
   ·cases hpa
   ·rename_i row' hq
    simp only [Sum.inl.injEq,Prod.mk.injEq] at hpa;have:=hfit _ _ hq;rw [hpa.1] at this;exact ⟨this.1,by have:=this.2;omega⟩
   ·cases hpa
  rw [hpa] at AL;simp only [zAQ] at AL;go_wp2_with fail
  refine AL.mono ?_;rintro e w4 ⟨v,rfl,⟨n,x,sl,rfl,hpt⟩,-,hg⟩;have pl4:=pl3.grown hg (λe=>by have:=Option.some.inj e;omega);have pc4:=pc3.grown hg (λe=>by have:=Option.some.inj e;omega);have pa4:=pa3.grown hg (λe=>by have:=Option.some.inj e;omega);have hB4:Below w.heap.size w w4:=hB3.grown hg (by have:=hB3.size;omega) (λk e=>by have:=Option.some.inj e;omega);have hs4:=hg.size;clear hg hW3 pl3 pc3 pa3 hB3 AL pl1 pc1 pa1 hfit;have RW:=zOT w.heap.size n x sl row (λb=>W3.heap.size<=b) (.slice none 0 0) [] w4 hpt (World.ownsRow_nil _ _ _ _) (λb _=>by simp [Value.ownBlock]) hB4.size (by simp only [List.length_nil];omega);clear hpt;rw [List.nil_append] at RW;go_wp2_with fail
  refine RW.mono ?_;rintro e w5 ⟨v5,rfl,ho5,hg5,hob⟩;have pl5:=pl4.grown hg5 (by simp [Value.ownBlock]);have pc5:=pc4.grown hg5 (by simp [Value.ownBlock]);have pa5:=pa4.grown hg5 (by simp [Value.ownBlock]);have hB5:Below w.heap.size w w5:=hB4.grown hg5 hB4.size (λk e=>by simp [Value.ownBlock] at e);have hs5:=hg5.size;have ho5':OwnN w5 w.heap.size v5 row:=ho5;clear ho5;obtain ⟨av5,cap5,rfl,-⟩:=ho5'.form;have hne:(Value.slice av5 row.length cap5).ownBlock ≠ some w.heap.size:=by
   rcases hob with h | ⟨b,h,h'⟩
   ·rw [h];simp [Value.ownBlock]
   ·rw [h];intro e;have:=Option.some.inj e;omega
  have hne1:(Value.slice av5 row.length cap5).ownBlock ≠ some (w.heap.size+1):=by
   rcases hob with h | ⟨b,h,h'⟩
   ·rw [h];simp [Value.ownBlock]
   ·rw [h];intro e;have:=Option.some.inj e;omega
  have hne2:(Value.slice av5 row.length cap5).ownBlock ≠ some (w.heap.size+1+1):=by
   rcases hob with h | ⟨b,h,h'⟩
   ·rw [h];simp [Value.ownBlock]
   ·rw [h];intro e;have:=Option.some.inj e;omega
  have ho6:OwnN (w5.setCell ⟨w.heap.size,0,none⟩ (.slice av5 row.length cap5)) w.heap.size (.slice av5 row.length cap5) row:=World.ownsRow.kept ho5' (zA0 w5 w.heap.size 0 _) (Or.inr hne);have hrd6:=ho6.rd;clear RW hg5 hob ho5';have l5:=pl5.2.1 0 _ rfl;have c5:=pc5.2.1 0 _ rfl;have a5:=pa5.2.1 0 _ rfl;have fl5:=pl5.2.2 0 (by simp);have fc5:=pc5.2.2 0 (by simp);have fa5:=pa5.2.2 0 (by simp);have pl6:=(pl5).set 0 (.slice av5 row.length cap5);have pc6:=AtL.far (pc5) (j:=w.heap.size) (by omega) 0 (.slice av5 row.length cap5);have pa6:=AtL.far (pa5) (j:=w.heap.size) (by omega) 0 (.slice av5 row.length cap5);have hB6:=(hB5).setCell (p:=⟨w.heap.size,0,none⟩) (show w.heap.size<=w.heap.size by omega) (.slice av5 row.length cap5);have CK:=zCo av5 cap5 row _ (by omega) hrow.1 (hE.below hB6).1 hrd6;go_wp2_with fail
  refine CK.mono ?_;rintro e w7 ⟨rfl,hb⟩;have pl7:=pl6.below hb;have pc7:=pc6.below hb;have pa7:=pa6.below hb;have ho7:=ho6.below hb;have hB7:=zAA hB6 hb;have hs7:=hb.size;simp only [World.size_setCell] at hs7;clear hb CK pl6 pc6 pa6 ho6 hB6 hrd6 pl5 pc5 pa5 hB5 l5 c5 a5 fl5 fc5 fa5 pl4 pc4 pa4 hB4;have HR2:Hid (R=if Wt.check row=0 then .inl row else .inr (Wt.check row,0)):=by
   show R=_
   rw [HR.out];unfold zLD;rw [hpa]
  clear HR hpa;generalize Wt.check row=ck at *;have l7:=pl7.2.1 0 _ rfl;have c7:=pc7.2.1 0 _ rfl;have a7:=pa7.2.1 0 _ rfl;have fl7:=pl7.2.2 0 (by simp);have fc7:=pc7.2.2 0 (by simp);have fa7:=pa7.2.2 0 (by simp);by_cases hck:ck=0
  ·subst hck;rw [if_pos rfl] at HR2;go_wp2;have ho8:OwnN (((((w7).setCell ⟨w.heap.size+1,0,none⟩ (.int .i64 0)).setCell ⟨w.heap.size,0,none⟩ (.slice av5 row.length cap5)).setCell ⟨w.heap.size+1,0,none⟩ (.int .i64 0)).setCell ⟨w.heap.size+1+1,0,none⟩ (.int .i64 0)) w.heap.size (.slice av5 row.length cap5) row:=(World.ownsRow.kept ((World.ownsRow.kept ((World.ownsRow.kept ((World.ownsRow.kept (ho7) (zA0 _ (w.heap.size+1) 0 (.int .i64 0)) (Or.inr hne1))) (zA0 _ (w.heap.size) 0 (.slice av5 row.length cap5)) (Or.inr hne))) (zA0 _ (w.heap.size+1) 0 (.int .i64 0)) (Or.inr hne1))) (zA0 _ (w.heap.size+1+1) 0 (.int .i64 0)) (Or.inr hne2))
   have pl8:=AtL.far (AtL.far ((AtL.far (pl7) (j:=w.heap.size+1) (by omega) 0 (.int .i64 0)).set 0 (.slice av5 row.length cap5)) (j:=w.heap.size+1) (by omega) 0 (.int .i64 0)) (j:=w.heap.size+1+1) (by omega) 0 (.int .i64 0);have pc8:=AtL.far ((AtL.far ((pc7).set 0 (.int .i64 0)) (j:=w.heap.size) (by omega) 0 (.slice av5 row.length cap5)).set 0 (.int .i64 0)) (j:=w.heap.size+1+1) (by omega) 0 (.int .i64 0);have pa8:=(AtL.far (AtL.far (AtL.far (pa7) (j:=w.heap.size+1) (by omega) 0 (.int .i64 0)) (j:=w.heap.size) (by omega) 0 (.slice av5 row.length cap5)) (j:=w.heap.size+1) (by omega) 0 (.int .i64 0)).set 0 (.int .i64 0);have hB8:=((((hB7).setCell (p:=⟨w.heap.size+1,0,none⟩) (show w.heap.size<=w.heap.size+1 by omega) (.int .i64 0)).setCell (p:=⟨w.heap.size,0,none⟩) (show w.heap.size<=w.heap.size by omega) (.slice av5 row.length cap5)).setCell (p:=⟨w.heap.size+1,0,none⟩) (show w.heap.size<=w.heap.size+1 by omega) (.int .i64 0)).setCell (p:=⟨w.heap.size+1+1,0,none⟩) (show w.heap.size<=w.heap.size+1+1 by omega) (.int .i64 0);generalize (((((w7).setCell ⟨w.heap.size+1,0,none⟩ (.int .i64 0)).setCell ⟨w.heap.size,0,none⟩ (.slice av5 row.length cap5)).setCell ⟨w.heap.size+1,0,none⟩ (.int .i64 0)).setCell ⟨w.heap.size+1+1,0,none⟩ (.int .i64 0))=W8 at *;refine leaves_cons (f:=95) (args:=#[.pointer (some ⟨w.heap.size,0,none⟩),.pointer (some ⟨w.heap.size+1,0,none⟩),.pointer (some ⟨w.heap.size+1+1,0,none⟩)]) (by simp) (by simp [go_sem]) ?_
   refine (zDV _ _ _ _).mono ?_;rintro e u' w9 ⟨rfl,rfl,hb⟩;have pl9:=pl8.below hb;have pc9:=pc8.below hb;have pa9:=pa8.below hb;have hB9:=zAA hB8 hb;have ho9:=ho8.below hb;rw [HR2.out];simp only [zFO];simp [Leaves,settle];exact ⟨_,zQ7 _ _ _ _ _ _ _ _ rfl rfl rfl rfl pl9 pc9 pa9,⟨_,rfl,ho9⟩,hB9⟩
  ·have hci:(ck != 0)=true:=by simp [hck]
   rw [if_neg hck] at HR2;go_wp2;go_region
   go_wp2;have pl8:=(AtL.far (AtL.far ((AtL.far (pl7) (j:=w.heap.size+1) (by omega) 0 (.int .i64 ck)).set 0 (.slice none 0 0)) (j:=w.heap.size+1) (by omega) 0 (.int .i64 ck)) (j:=w.heap.size+1+1) (by omega) 0 (.int .i64 0)).drew;have pc8:=(AtL.far ((AtL.far ((pc7).set 0 (.int .i64 ck)) (j:=w.heap.size) (by omega) 0 (.slice none 0 0)).set 0 (.int .i64 ck)) (j:=w.heap.size+1+1) (by omega) 0 (.int .i64 0)).drew;have pa8:=((AtL.far (AtL.far (AtL.far (pa7) (j:=w.heap.size+1) (by omega) 0 (.int .i64 ck)) (j:=w.heap.size) (by omega) 0 (.slice none 0 0)) (j:=w.heap.size+1) (by omega) 0 (.int .i64 ck)).set 0 (.int .i64 0)).drew;have hB8:=(((((hB7).setCell (p:=⟨w.heap.size+1,0,none⟩) (show w.heap.size<=w.heap.size+1 by omega) (.int .i64 ck)).setCell (p:=⟨w.heap.size,0,none⟩) (show w.heap.size<=w.heap.size by omega) (.slice none 0 0)).setCell (p:=⟨w.heap.size+1,0,none⟩) (show w.heap.size<=w.heap.size+1 by omega) (.int .i64 ck)).setCell (p:=⟨w.heap.size+1+1,0,none⟩) (show w.heap.size<=w.heap.size+1+1 by omega) (.int .i64 0)).drew;generalize (((((w7).setCell ⟨w.heap.size+1,0,none⟩ (.int .i64 ck)).setCell ⟨w.heap.size,0,none⟩ (.slice none 0 0)).setCell ⟨w.heap.size+1,0,none⟩ (.int .i64 ck)).setCell ⟨w.heap.size+1+1,0,none⟩ (.int .i64 0)).drew=W8 at *;refine leaves_cons (f:=95) (args:=#[.pointer (some ⟨w.heap.size,0,none⟩),.pointer (some ⟨w.heap.size+1,0,none⟩),.pointer (some ⟨w.heap.size+1+1,0,none⟩)]) (by simp) (by simp [go_sem]) ?_
   refine (zDV _ _ _ _).mono ?_;rintro e u' w9 ⟨rfl,rfl,hb⟩;have pl9:=pl8.below hb;have pc9:=pc8.below hb;have pa9:=pa8.below hb;have hB9:=zAA hB8 hb;rw [HR2.out];simp only [zFO];simp [Leaves,settle];exact ⟨_,zQ7 _ _ _ _ _ _ _ _ rfl rfl rfl rfl pl9 pc9 pa9,rfl,hB9⟩
theorem zDs:∀ (n:Nat) (p:Nat) (l:List UInt8),l.length<=n->∀ c q,Wlx.scan p l=.inr (c,q)->c ≠ 0:=by
 intro n;induction n with
 | zero=>intro p l h c q hs;obtain rfl:=List.eq_nil_of_length_eq_zero (Nat.le_zero.1 h);rw [Wlx.scan_nil] at hs;cases hs
 | succ n ih =>
  intro p l h c q hs;cases l with
  | nil=>rw [Wlx.scan_nil] at hs;cases hs
  | cons b t =>
   rw [Wlx.scan_cons] at hs;simp only [List.length_cons] at h;split at hs
   ·exact ih _ t (by omega) _ _ hs
   split at hs
   ·simp only [Wlx.Res.err,Sum.inr.injEq,Prod.mk.injEq] at hs;have:=hs.1;split at this <;> omega
   rename_i h6
   split at hs
   ·simp only [Wlx.Res.err,Sum.inr.injEq,Prod.mk.injEq] at hs;omega
   have hp:=Wlx.hit_pos h6;generalize Wlx.sz (Wlx.hit (b::t)) (b::t)=m at *;generalize hR:Wlx.scan (p+m) ((b::t).drop m)=R at hs;cases R with
   | inl us=>cases hs
   | inr q' =>
    obtain ⟨c',p'⟩:=q';simp only [Wlx.Res.cons,Sum.inr.injEq,Prod.mk.injEq] at hs;have:=ih (p+m) ((b::t).drop m) (by rw [List.length_drop];simp only [List.length_cons];omega) _ _ hR;rw [<-hs.1];exact this
theorem zFZ {c p:Nat} (h:zA7 l=.inr (c,p)):c ≠ 0:=by
 unfold zA7 at h;split at h
 ·simp only [Wlx.Res.err,Sum.inr.injEq,Prod.mk.injEq] at h;omega
 ·exact zDs _ 0 l (Nat.le_refl _) _ _ h
theorem zD1 (b:ByteArray) (w:World) (hE:Env w) (hs:b.size<=9223372036854775807) (hk8:8<=w.heap.size):Calls prog 73 #[.string b] w λe w'=>zFO w.heap.size (zIO b.data.toList) e w'/\Below w.heap.size w w':=by
 unfold zIO;cases hr:zA7 b.data.toList with
 | inr q =>
  obtain ⟨c,p⟩:=q;exact (zIf b w hE hs c p (zFZ hr) hr).mono λe w' h=>⟨h.1,h.2⟩
 | inl ts =>
  have:=zHv b w hE hs ts hk8 hr;have e:b.data.toList.length=b.size:=by rw [Array.length_toList];rfl
  rw [e];exact this
