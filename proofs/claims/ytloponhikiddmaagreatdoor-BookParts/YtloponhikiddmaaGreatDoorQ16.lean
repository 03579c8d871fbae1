/- Lemmas. -/
import Derived.Test.YtloponhikiddmaaGreatDoorQ15
set_option maxHeartbeats 8000000
set_option maxRecDepth 100000
set_option linter.unusedVariables false
open List renaming length_cons->bZ,mem_cons_of_mem->eZ,mem_cons_self->gZ,length_drop->jZ,eq_nil_of_length_eq_zero->mZ,getElem?_eq_getElem->oZ,length_take->pZ,length_map->qZ,map_cons->uZ,length_append->vZ,not_mem_nil->yZ,length_nil->zZ,mem_cons->bY,sum_cons->cY
open Go.RowKit.Below renaming refl->cZ
open Nat renaming le_refl->dZ,le_trans->fZ,zero_le->hZ,le_succ->iZ,zero_add->tZ,le_of_succ_le->wZ
open ByteArray renaming size_extract->kZ
open Go.World renaming size_alloc->nZ,size_setCell->rZ,ownsRow_nil->xZ
open Or renaming inr->sZ,inl->dY
open Go renaming World->wW,Value->vW,Calls->cW
open Go.RowKit renaming Hid->hH
open Go.Value renaming int->O,slice->U,string->V,bool->Y,pointer->pX,agg->gX,tuple->uX
open Go.IntKind renaming i64->J
open Go.Obj renaming cells->Z
open Go.Ending renaming returned->rX
namespace Go.Proofs.YtloponhikiddmaaGreatDoor
open Tryz
variable {w w':wW} {B N cap:Nat} {sub:List Wlx.TV->PR} {l:List UInt8} {en c p:Int} {v:vW} {ts:List Wlx.TV} {av:Option Addr}
open Go.Shelf Go.RowKit
theorem zPv {d:Nat} {ts:List Wlx.Tok} (h:V0 w B v ts) (e:d<=B):V0 w d v ts :=
 ⟨h.1,h.2.imp id λ⟨g,cap,cur,a,b,c⟩=>⟨g,cap,cur,a,fZ e b,c⟩⟩
theorem zBx (w:wW) (a b c:vW) (t:TypeId):∀ j u,[a,b,c][j]? = some u->(w.alloc (Z #[a,b,c] t)).cell? ((⟨w.heap.size,0,none⟩:Addr).add j)=some u:=by
 intro j u d;match j,d with
 | 0,d=>simp at d;subst d;simp [Addr.add]
 | 1,d=>simp at d;subst d;simp [Addr.add]
 | 2,d=>simp at d;subst d;simp [Addr.add]
 | j+3,d=>simp at d
theorem zLR:∀ (l:List UInt8) (i:Nat),(0<Wlx.quo true i l->i+1<=Wlx.quo true i l)/\(0<Wlx.quo false i l->i<=Wlx.quo false i l):=by
 intro l;induction l with
 | nil=>intro i;exact ⟨λh=>absurd h (by show ¬ 0<0;omega),λ_=>dZ _⟩
 | cons c t e =>
  intro i;obtain ⟨b,d⟩:=e (i+1);by_cases a:c=34
  ·subst a;rw [zCb,zCb];exact ⟨d,λh=>wZ (wZ (b h))⟩
  ·rw [zMe a,zHC a];exact ⟨λh=>by have:=b h;omega,λ_=>dZ _⟩
theorem zOZ (h:0<Wlx.sz 2 l):2<=Wlx.sz 2 l:=by
 cases l with
 | nil=>exact absurd h dM
 | cons c t =>
  have e:Wlx.sz 2 (c::t)=if c=34 then Wlx.quo true 1 t else 0:=rfl
  rw [e] at h ⊢;by_cases a:c=34
  ·rw [if_pos a] at h ⊢;exact (zLR t 1).1 h
  ·rw [if_neg a] at h;omega
theorem zFZ (b:ByteArray) (w:wW) (hm:MaxAt w) (hs:b.size<=9223372036854775807):cW prog 79 #[V b] w λe w'=>zCd w.heap.size (Qk b.data.toList) e w'/\bL w w':=by
 by_cases hL:1024<b.size
 ·have E:hH (Qk b.data.toList=Wlx.Res.err 2 0):=by
   show _=_;unfold Qk;rw [if_pos (by exact hL)]
  have az:(1024:Int)<(b.size:Int):=oM;go_enter func79,ntmps79;go_wp2;go_step3
  go_wp2;try rw [Exit.noGoto_ret]
  go_ret3
  refine ⟨?_,cZ _ _⟩;rw [E.out];rfl
 ·have E0:hH (Qk b.data.toList=Wlx.scan 0 b.data.toList):=by
   show _=_;unfold Qk;rw [if_neg (by exact hL)]
  have az:¬ (1024:Int)<(b.size:Int):=oM;obtain ⟨R,hR⟩:=xV (Qk b.data.toList)
  rw [hR] at E0 ⊢;clear hR;obtain ⟨i0,hi,aJ,aK,aL⟩:=info_parts zNL;go_enter func79,ntmps79;go_wp2_with fail
  go_step3
  go_wp2_with fail
  go_step3
  go_wp2_with fail
  go_loopg [5,6] (b.size) (λgk x y wr=>∃ (e pos q:Nat) (d:List Wlx.Tok),y=O J e/\gk=b.size - pos/\pos<=q/\q<=b.size/\(pos<e->q=e)/\(¬ pos<e->q=pos)/\wr.heap[w.heap.size]? = some (.stringIter b pos) /\
   hH (R=Wlx.Res.pre d (Wlx.scan q (b.data.toList.drop q)))/\hH (∀ j,pos<=j->(hj:j<b.size)->j<q->(b[j]).toNat<128)/\hH (V0 wr (w.heap.size+1) x d)/\d.length<=q/\bL w wr)
  case atStart =>
   exact ⟨0,0,0,[],rfl,rfl,dZ _,hZ _,λh=>absurd h oM,λ_=>rfl,World.iter_heap w b 0,E0,(λj a _ c=>by omega:∀ j,0<=j->(hj:j<b.size)->j<0->(b[j]).toNat<128),(xZ _ _ _ _:V0 _ (w.heap.size+1) _ []),dZ _,(cZ _ w).alloc (dZ _) _⟩
  case round =>
   obtain ⟨lv,aC⟩:∃ lv,lv=u5:=⟨u5,rfl⟩
   subst aC;obtain ⟨e,pos,q,d,rfl,hg,aR,aH,aF,aG,hit,L,HA,HO,aA,hb⟩:=hrel;by_cases o:pos<b.size
   ·have nx:=λty=>Lib.run_next_any_at (P:=prog) wr w.heap.size b pos ty hit o
    have ad:=λq=>Lib.iterAt_heap wr w.heap.size b pos q hit
    have aa:=λq=>Lib.below_iterAt hb (dZ w.heap.size) b q
    have af:=λq=>(ownsRow_iterAt HO.out (Nat.lt_succ_self _) b q:V0 (wr.iterAt w.heap.size b q) (w.heap.size+1) lv d)
    by_cases ag:pos<e
    ·obtain rfl:=aF ag;have hc:(b[pos]).toNat<128:=HA.out pos (dZ _) o ag;have e:=decode_ascii b pos o hc;rw [e] at nx;have aE:(pos:Int)<(q:Int):=oM;have I:=ad (pos+1);have f:=aa (pos+1);have g:=hid (af (pos+1));have ai:hH (∀ j,pos+1<=j->(hj:j<b.size)->j<q->(b[j]).toNat<128):=λj a1 a2 a3=>HA.out j oM a2 a3
     clear ad aa af HA HO e;go_wp2_with fail
     go_roundg (b.size - (pos+1))
     case rel=>exact ⟨q,pos+1,q,d,rfl,rfl,ag,aH,λ_=>rfl,λ_=>by omega,I,L,ai,g,aA,f⟩
     case measure=>omega
    ·obtain rfl:=aG ag;have aE:¬ (q:Int)<(e:Int):=oM;obtain ⟨rv,K⟩:∃ rv:Nat,(Utf8.decode b q).1=rv:=⟨_,rfl⟩
     obtain ⟨n,hn⟩:∃ n:Nat,(Utf8.decode b q).2=n:=⟨_,rfl⟩
     have aj:1<=n/\q+n<=b.size/\(((rv:Int) == 32)=true->b[q]=32/\n=1)/\(((rv:Int) == 32)=false->¬ b[q]=32)/\((b[q]).toNat<128->n=1):=by
      rcases zB9 b q o with ⟨h1,e⟩ | ⟨h1,e⟩
      ·rw [e] at K hn;simp only at K hn;subst hn K;refine ⟨dZ _,o,λh=>⟨UInt8.toNat_inj.1 (by have:=beq_iff_eq.1 h;show _=32;omega),rfl⟩,λh h2=>?_,λ_=>rfl⟩;rw [h2] at h;exact absurd h dM
      ·obtain ⟨w1,w2,w3⟩:=zCL b q o h1;rw [hn] at w1 w2 w3;rw [K] at e;refine ⟨w1,w2,λh=>by have:=beq_iff_eq.1 h;omega,λh h2=>?_,λh=>by omega⟩;rw [h2] at h1;exact absurd h1 dM
     obtain ⟨f1,f2,f3,f4,f5⟩:=aj;rw [K,hn] at nx;clear K hn;have I:=ad (q+n);have f:=aa (q+n);have g:=hid (af (q+n));have aI:(wr.iterAt w.heap.size b (q+n)).heap.size=wr.heap.size:=Lib.iterAt_size _ _ _ _;obtain ⟨W1,aq⟩:=xV (wr.iterAt w.heap.size b (q+n))
     rw [aq] at nx I f g aI;clear ad aa af HA HO aq;have hd:=Qr b q o;cases ap:((rv:Int) == 32) with
     | true =>
      obtain ⟨an,rfl⟩:=f3 ap;have E:hH (R=Wlx.Res.pre d (Wlx.scan (q+1) (b.data.toList.drop (q+1)))):=by
       show _=_;rw [L.out,hd,an,Wlx.scan_blank]
      clear L f3 f4 f5 an hd;go_wp2_with fail
      go_roundg (b.size - (q+1))
      case rel=>exact ⟨e,q+1,q+1,d,rfl,rfl,dZ _,o,λh=>by omega,λ_=>rfl,I,E,(λj a1 _ a3=>by omega:∀ j,q+1<=j->(hj:j<b.size)->j<q+1->(b[j]).toNat<128),g,oM,f⟩
      case measure=>omega
     | false =>
      have al:=f4 ap;have aD:=MaxAt.below hm f;obtain ⟨c,hc⟩:=xV (b[q])
      obtain ⟨t,ht⟩:=xV (b.data.toList.drop (q+1))
      rw [hc] at al f5 hd;rw [ht] at hd;have X:hH (b.data.toList.drop q=c::t):=hd;have Hc:hH (b[q]=c):=hc;have aN:t.length+1+q=b.size:=by
       have:=congrArg List.length hd;simp only [jZ,bZ] at this;have e2:b.data.toList.length=b.size:=rfl;omega
      have Hne:hH (¬ c=32):=al;clear f3 f4 hd hc al ht;have aU:(0:Int)<=(q:Int):=oM;have aV:(q:Int)<=(b.size:Int):=oM;go_wp2_with fail
      go_loopg [5,6,9] 5 (λgk z y x wi=>∃ i:Nat,x=O J i/\y=O J e/\z=lv/\gk=6 - i/\1<=i/\i<=6/\hH (∀ j,1<=j->j<i->Wlx.sz j (c::t)=0)/\bL W1 wi)
      case atStart=>exact ⟨1,rfl,rfl,rfl,rfl,oM,oM,(λj a1 a2=>by omega:∀ j,1<=j->j<1->Wlx.sz j (c::t)=0),cZ _ _⟩
      case round =>
       obtain ⟨i,rfl,rfl,rfl,aO,k1,k6,HZ,A⟩:=hrel;have si:=A.size;by_cases au:i<=5
       ·obtain ⟨m,ae⟩:=xV (Wlx.sz i (c::t))
        have aQ:m<=t.length+1:=by rw [<-ae];exact Wlx.sz_le i (c::t)
        have SZ:=zEB i (b.extract q b.size) wr (by rw [kZ];omega) k1 au;rw [zBQ,X.out,ae] at SZ;have Hm:hH (Wlx.sz i (c::t)=m):=ae;clear ae;by_cases m0:m=0
        ·subst m0;have ay:hH (∀ j,1<=j->j<i+1->Wlx.sz j (c::t)=0):=λj a1 a2=>by
          by_cases h:j=i
          ·rw [h];exact Hm.out
          ·exact HZ.out j a1 oM
         clear HZ Hm;go_wp2_with fail
         refine SZ.mono ?_;rintro e1 w2 ⟨rfl,r⟩;go_wp2_with fail
         go_roundg (6 - (i+1))
         case rel=>exact ⟨i+1,sM,rfl,rfl,rfl,oM,oM,ay,A.trans (r.mono A.size)⟩
         case measure=>omega
        ·have aT:=beq_eq_false_iff_ne.2 oM;have Hh:hH (Wlx.hit (c::t)=i):=Wlx.hit_first k1 au (by rw [Hm.out];omega) HZ.out;have RP:=λw=>zJj (b.extract q (q+m)) w (by rw [kZ];omega)
         have ee:(b.extract q (q+m)).data.toList=(c::t).take m:=by rw [Lib.extract_data,X.out];congr 1;omega
         have es:(b.extract q (q+m)).size=m:=by rw [kZ];omega
         have SD:=λw hm=>zLs i (b.extract q (q+m)) w hm (λh=>by rw [es];subst h;rw [<-Hm.out];exact zOZ (by rw [Hm.out];omega)) (by rw [es];omega)
         rw [ee] at RP SD;obtain ⟨gd,s⟩:=xV (Wlx.runP Wlx.prt ((c::t).take m))
         have aP:gd<=m:=by
          rw [<-s];have:=Wlx.runP_le Wlx.prt ((c::t).take m);rw [pZ] at this;omega
         rw [s] at RP;have aW:(q:Int)+(m:Int)<=(b.size:Int):=oM;have aX:(q:Int)<=(q:Int)+(m:Int):=oM;clear HZ ee es;by_cases ah:gd<m
         ·have ar:(gd:Int)<(m:Int):=oM;have E:hH (R=Wlx.Res.err 40 (q+gd)):=by
           show _=_
           rw [L.out,X.out,Wlx.scan_bad Hne.out Hh.out oM Hm.out (by rw [s];exact ah),Wlx.Res.pre_err,s]
          clear L Hh Hm s g;go_wp2_with fail
          refine SZ.mono ?_;rintro e1 w2 ⟨rfl,r⟩;go_wp2_with fail
          refine (RP _).mono ?_;rintro e1 w3 ⟨rfl,ab⟩;go_wp2;try rw [Exit.noGoto_ret]
          go_ret3
          refine ⟨?_,?_⟩
          ·rw [E.out];exact congrArg (λz=>rX (uX #[U none 0 0,O J 40,O J z])) oM
          ·exact f.trans ((A.trans ((r.trans (ab.mono r.size)).mono si)).mono f.size)
         ·have ar:¬ (gd:Int)<(m:Int):=oM;have M:=zFn ((c::t).take m) (by rw [s,pZ];simp only [bZ];omega);have S:=zIM (M c (by
           obtain ⟨m',rfl⟩:∃ m',m=m'+1:=⟨m - 1,oM⟩
           simp))
          obtain rfl:=f5 S;have ai:hH (∀ j,q+1<=j->(hj:j<b.size)->j<q+m->(b[j]).toNat<128):=λj a1 a2 a3=>zIM (M _ (by
           rw [<-X.out];refine List.mem_iff_getElem?.2 ⟨j - q,?_⟩;rw [List.getElem?_take,if_pos oM,List.getElem?_drop,show q+(j - q)=j by omega];exact oZ (by exact a2)))
          obtain ⟨tx,am⟩:=xV (Wlx.said i ((c::t).take m))
          have E:hH (R=Wlx.Res.pre (d++[⟨i,tx,q⟩]) (Wlx.scan (q+m) (b.data.toList.drop (q+m)))):=by
           show _=_
           rw [L.out,X.out,Wlx.scan_tok Hne.out Hh.out oM Hm.out (by rw [s];exact ah),Wlx.Res.pre_snoc,am,<-X.out,List.drop_drop]
          rw [am] at SD;clear L Hh Hm s M am S X Hc Hne f5;go_wp2_with fail
          refine SZ.mono ?_;rintro e1 w2 ⟨rfl,r⟩;go_wp2_with fail
          refine (RP _).mono ?_;rintro e1 w3 ⟨rfl,ab⟩;have H:=A.trans ((r.trans (ab.mono r.size)).mono si);have HS:=SD w3 (MaxAt.below aD H);clear SZ RP SD;go_wp2_with fail
          refine HS.mono ?_;rintro e1 w4 ⟨rfl,ac⟩;have F:=H.trans (ac.mono H.size);have W:=zIt g.out F;have ak:=zG3 F I;have Q:=f.trans (F.mono f.size);have s4:=Q.size;have aM:=(Array.getElem?_eq_some_iff.1 ak).1;have D:=(W.lt)
          clear HS g r ab ac H F I f A;go_wp2_with (at_builtin;refine wpList_append_own _ rfl _ _ 141 rfl (w.heap.size+1) 203 i0 (gX #[O J 0,V ⟨#[]⟩,O J 0]) 3 32 underlying141 hi aJ aK aL rfl dM _ _ _ rfl (W.alloc _) ⟨w4.heap.size,0,none⟩ 1 1 [O J i,V ⟨tx.toArray⟩,O J q] rfl rfl (zBx _ _ _ _ _) (by intro u hu;simp at hu;rcases hu with rfl | rfl | rfl <;> rfl) (by unfold maxLen;omega) oM (by simp;omega) ?_)
          intro v2 w5 T C _;have aB:=zGa C (by rw [Lib.alloc_old w4 _ _ aM];exact ak) (λh=>by have:=D _ h.symm;omega);have ac:=(Q.alloc oM _).grown C (by simp;omega) (λk hk=>by have:=D _ hk;omega);have ax:hH (V0 w5 (w.heap.size+1) v2 (d++[⟨i,tx,q⟩])):=by
           show w5.ownsRow _ _ 3 v2 (d++[_]).length (Vu (d++[_]))
           rw [vZ,zI4];exact T
          clear T C W D ak Q;go_wp2_with fail
          go_roundg (b.size - (q+1))
          case rel=>exact ⟨q+m,q+1,q+m,d++[⟨i,tx,q⟩],sM,rfl,oM,oM,λ_=>rfl,λh=>by omega,aB,E,ai,ax,by simp;omega,ac⟩
          case measure=>omega
       ·obtain rfl:i=6:=oM;have Hh:hH (Wlx.hit (c::t)=6):=Wlx.hit_none λj a1 a2=>HZ.out j a1 oM
        have RF:=zFE (b.extract q b.size) wr (by rw [kZ];omega);rw [zBQ,X.out,zBD] at RF;have ao:(if decide (34=c)=true then (41:Int) else 40)=((if c=34 then 41 else 40:Nat):Int):=by
         by_cases h:c=34
         ·subst h;rfl
         ·rw [if_neg (by simp;exact λe=>h e.symm),if_neg h];rfl
        simp only [] at RF;rw [ao] at RF;have E:hH (R=Wlx.Res.err (if c=34 then 41 else 40) q):=by
         show _=_
         rw [L.out,X.out,Wlx.scan_none Hne.out Hh.out,Wlx.Res.pre_err]
        generalize (if c=34 then 41 else 40)=er at E RF;clear L Hh HZ ao X Hc Hne g;go_wp2_with fail
        refine RF.mono ?_;rintro e1 w2 ⟨rfl,rfl⟩;go_wp2;try rw [Exit.noGoto_ret]
        go_ret3
        refine ⟨?_,f.trans (A.mono f.size)⟩;rw [E.out];rfl
   ·have nx:=λty=>Lib.run_next_end_at (P:=prog) wr w.heap.size b pos ty hit o
    have aS:q=b.size:=oM;have E:hH (R=Wlx.Res.ok d):=by
     show _=_
     rw [L.out,JS b q oM,Wlx.scan_nil,Wlx.Res.pre_ok,List.append_nil]
    have g:V0 wr w.heap.size lv d:=zPv HO.out oM;have aw:hH (V0 wr w.heap.size lv d):=g;clear L HA HO g;go_wp2;try rw [Exit.noGoto_ret]
    go_ret3
    refine ⟨?_,hb⟩;rw [E.out];exact ⟨_,rfl,aw.out⟩
open Go.RowKit Go.Shelf
theorem zBG:∀ (p l:List UInt8),Wlx.begins p l=true->l.take p.length=p
 | [],_,_=>rfl
 | _::_,[],h=>by simp [Wlx.begins] at h
 | a::p,b::t,h=>by
  simp only [Wlx.begins,Bool.and_eq_true,decide_eq_true_eq] at h;simp only [bZ,List.take_succ_cons,zBG p t h.2,h.1]
theorem zBH (l:List UInt8):∀ (b:List (List UInt8)),0<Wlx.nameSz l b->l.take (Wlx.nameSz l b) ∈ b
 | [],h=>by simp [Wlx.nameSz] at h
 | n::r,h=>by
  unfold Wlx.nameSz at h ⊢;by_cases a:Wlx.begins n l=true
  ·rw [if_pos a,zBG n l a];simp
  ·rw [if_neg a] at h ⊢;exact eZ _ (zBH l r h)
theorem zKP {x:List UInt8} (h:x ∈ Wlx.faults):∃ i,∃ h:i<9,1<=i/\x=fNames[i]'h:=by
 simp only [Wlx.faults,bY,yZ,or_false] at h;rcases h with rfl | rfl | rfl | rfl | rfl | rfl | rfl | rfl
 ·exact ⟨1,dM,dM,rfl⟩
 ·exact ⟨2,dM,dM,rfl⟩
 ·exact ⟨3,dM,dM,rfl⟩
 ·exact ⟨4,dM,dM,rfl⟩
 ·exact ⟨5,dM,dM,rfl⟩
 ·exact ⟨6,dM,dM,rfl⟩
 ·exact ⟨7,dM,dM,rfl⟩
 ·exact ⟨8,dM,dM,rfl⟩
theorem zDj:∀ (n:Nat) (l:List UInt8),l.length<=n->(Wlx.undbl l).length<=l.length:=by
 intro n;induction n with
 | zero=>intro l h;obtain rfl:=mZ (Nat.le_zero.1 h);simp [Wlx.undbl]
 | succ n a =>
  intro l h;match l,h with
  | [],_=>exact dZ _
  | [c],_=>exact dZ _
  | c::d::t,h =>
   simp only [bZ] at h;rw [Wlx.undbl];split
   ·have:=a t oM;simp only [bZ];omega
   ·have:=a (d::t) (by simp only [bZ];omega);simp only [bZ] at this ⊢;omega
theorem zEj (k:Nat) (l:List UInt8):(Wlx.said k l).length<=l.length:=by
 unfold Wlx.said;split
 ·have:=zDj _ ((l.drop 1).take (l.length - 2)) (dZ _);have a:((l.drop 1).take (l.length - 2)).length<=l.length:=by rw [pZ,jZ];omega
  omega
 ·exact dZ _
theorem zIc:∀ (n:Nat) (p:Nat) (l:List UInt8),l.length<=n->l.length<=1024->∀ ts,Wlx.scan p l=Wlx.Res.ok ts->ts.length<=l.length/\∀ t ∈ ts.map Wlx.tv,Qd t:=by
 intro n;induction n with
 | zero=>intro p l h o ts a;obtain rfl:=mZ (Nat.le_zero.1 h);rw [Wlx.scan_nil] at a;cases a;simp
 | succ n r =>
  intro p l h o ts a;cases l with
  | nil=>rw [Wlx.scan_nil] at a;cases a;simp
  | cons c t =>
   rw [Wlx.scan_cons] at a;simp only [bZ] at h o ⊢;split at a
   ·have:=r _ t oM oM _ a;exact ⟨oM,this.2⟩
   split at a
   ·cases a
   rename_i u
   split at a
   ·cases a
   have i:=Wlx.hit_pos u;have d:=Wlx.sz_le (Wlx.hit (c::t)) (c::t);revert a i d
   have b:Wlx.hit (c::t)=4->Wlx.sz (Wlx.hit (c::t)) (c::t)=Wlx.nameSz (c::t) Wlx.faults:=λh=>by rw [h];rfl
   revert b
   generalize Wlx.hit (c::t)=k;generalize Wlx.sz k (c::t)=m;intro b a i d;simp only [bZ] at d;generalize x:Wlx.scan (p+m) ((c::t).drop m)=R at a;cases R with
   | inr q=>cases a
   | inl z =>
    have f:((c::t).drop m).length<=n:=by rw [jZ];simp only [bZ];omega
    have:=r (p+m) ((c::t).drop m) f (by rw [jZ];simp only [bZ];omega) z x;simp only [Wlx.Res.cons,Wlx.Res.ok,Sum.inl.injEq] at a;subst a;rw [jZ] at this;simp only [bZ] at this;refine ⟨by simp only [bZ];omega,λy ht=>?_⟩;rw [uZ] at ht;rcases List.mem_cons.1 ht with rfl | ht
    ·refine ⟨?_,λg=>?_⟩
     ·have j:=zEj k ((c::t).take m);rw [pZ] at j;simp only [bZ] at j;show (Wlx.said k _).length<=_
      omega
     ·have g:k=4:=by
       have s:((k:Nat):Int)=4:=g;omega
      subst g;refine zKP ?_;show Wlx.said 4 _ ∈ _
      have e:=b rfl;subst e;exact zBH (c::t) Wlx.faults i
    ·exact this.2 y ht
def Vh (en:Int) (ts:List Wlx.TV):List Wt.Nd ⊕ (Int × Int):=match Vc (lv en (10 * ts.length+9) 0) en ts with
 | .inr e=>.inr e
 | .inl (row,_)=>if Wt.check row=0 then .inl row else .inr (Wt.check row,0)
def V5 (l:List UInt8):List Wt.Nd ⊕ (Int × Int):=match Qk l with
 | .inr (c,p)=>.inr ((c:Int),(p:Int))
 | .inl ts=>Vh (l.length:Int) (ts.map Wlx.tv)
def OwnN (w:wW) (B:Nat) (v:vW) (row:List Wt.Nd):Prop:=w.ownsRow B 98 20 v row.length (J6 row)
def zD7 (B:Nat) (r:List Wt.Nd ⊕ (Int × Int)) (e:Ending) (w:wW):Prop:=match r with
 | .inl row=>∃ v,e=rX (uX #[v,O J 0,O J 0])/\OwnN w B v row
 | .inr (c,p)=>e=rX (uX #[U none 0 0,O J c,O J p])
theorem zAT (x:Wt.Nd):(QN x).length=20:=rfl
theorem zHs (l:List Wt.Nd):∀ (i:Nat) (h:i<l.length) (j:Nat),j<20->(J6 l)[i * 20+j]? = (QN (l[i]))[j]?:=by
 induction l with
 | nil=>intro i h;exact absurd h (Nat.not_lt_zero _)
 | cons x r b =>
  intro i h j a;have e:J6 (x::r)=QN x++J6 r:=by simp [J6]
  rw [e];cases i with
  | zero=>rw [List.getElem?_append_left (by rw [zAT];omega)];simp
  | succ i =>
   rw [List.getElem?_append_right (by rw [zAT];omega),zAT,show (i+1) * 20+j - 20=i * 20+j by omega];rw [b i (by simpa using h) j a];simp
theorem OwnN.form {row:List Wt.Nd} (h:OwnN w B v row):∃ av cap,v=U av row.length cap/\RdN w av row:=by
 rcases h.2 with ⟨rfl,d⟩ | ⟨g,cap,b,rfl,f⟩
 ·exact ⟨none,0,by rw [d],λi a=>by omega⟩
 ·refine ⟨_,cap,rfl,λi a=>⟨g,0,rfl,λj u hu=>?_⟩⟩;have e:j<20:=by
   rcases Nat.lt_or_ge j 20 with h1 | h1
   ·exact h1
   ·rw [List.getElem?_eq_none (by rw [zAT];exact h1)] at hu;cases hu
  rw [tZ,World.ownsRow.cellAt h _ oM,zHs row i a j e];exact hu
theorem OwnN.rd {n:Nat} {row:List Wt.Nd} (h:OwnN w B (U av n cap) row):RdN w av row:=by
 obtain ⟨av',a,e,b⟩:=h.form;simp only [U.injEq] at e;rw [e.1];exact b
theorem OwnN.below {row:List Wt.Nd} (h:OwnN w B v row) (a:bL w w'):OwnN w' B v row :=
 h.kept (row:=none) ⟨a.os,a.tape,a.output,a.size,λk b _=>a.block k b⟩ (by cases v.ownBlock <;> simp)
theorem zQN (W:wW) (a:Array vW) (bl d b:Nat) (v:vW) (c p:Int) (t:v.oneCell'=true) (k:a.getD 2 undef=pX (some ⟨bl,0,none⟩)) (m:a.getD 3 undef=pX (some ⟨d,0,none⟩)) (n:a.getD 4 undef=pX (some ⟨b,0,none⟩))
  (r:AtL W bl [v]) (q:AtL W d [O J c]) (o:AtL W b [O J p]):(results Tryz.f53 a).run prog W=.ok (uX #[v,O J c,O J p]) W:=by
 have s:=r.2.1 0 _ rfl;have j:=q.2.1 0 _ rfl;have i:=o.2.1 0 _ rfl;have e:a[2]?.getD undef=pX (some ⟨bl,0,none⟩):=by rw [<-k];simp
 have f:a[3]?.getD undef=pX (some ⟨d,0,none⟩):=by rw [<-m];simp
 have g:a[4]?.getD undef=pX (some ⟨b,0,none⟩):=by rw [<-n];simp
 simp [results,results53,go_sem,e,f,g,s,j,i]
theorem zHc (b:ByteArray) (w:wW) (C:Env w) (I:b.size<=9223372036854775807) (c p:Nat) (R:c ≠ 0) (H:Qk b.data.toList=.inr (c,p)):CR 53 #[V b] w (uX #[U none 0 0,O J c,O J p]):=by
 have S:=λw E=>zFZ b w E I
 rw [H] at S;simp only [zCd] at S;have d:=((C.below (QJ (cZ _ w) (Z #[U none 0 0] 100))).below (QJ (cZ _ _) (Z #[O J 0] 28))).below (QJ (cZ _ _) (Z #[O J 0] 3));have a:=QJ (QJ (QJ (cZ _ w) (Z #[U none 0 0] 100)) (Z #[O J 0] 28)) (Z #[O J 0] 3);have F:∀ (x:Fn) (first cap:Array vW) (w:wW),(Instr.makeFunc x first cap).run prog w=.ok (.func x first cap) w:=λ_ _ _ _=>rfl
 have m:=((AtL.new0 w 100 [U none 0 0]).alloc (Z #[O J 0] 28)).alloc (Z #[O J 0] 3);have i:=(AtL.new1 w (Z #[U none 0 0] 100) 28 [O J 0]).alloc (Z #[O J 0] 3);have f:AtL (((w.alloc (Z #[U none 0 0] 100)).alloc (Z #[O J 0] 28)).alloc (Z #[O J 0] 3)) (w.heap.size+1+1) [O J 0]:=AtL.new _ 3 (by simp only [nZ]) _;generalize r:((w.alloc (Z #[U none 0 0] 100)).alloc (Z #[O J 0] 28)).alloc (Z #[O J 0] 3)=L at d a m i f;have D:((c:Int) != 0)=true:=by simp;omega
 go_enter_defers func53,ntmps53
 go_wp2_with fail
 refine (S _ d.2.2.1).mono ?_;rintro e K ⟨rfl,n⟩;have pl1:=m.below n;have k:=i.below n;have g:=f.below n;have o:=QA a n;clear n r m i f a d S;have T:=pl1.2.1 0 _ rfl;have Q:=k.2.1 0 _ rfl;have P:=g.2.1 0 _ rfl;have A:=pl1.2.2 0 sM;have z:=k.2.2 0 sM;have y:=g.2.2 0 sM;go_wp2;go_region
 go_wp2;have u:=(AtL.far (AtL.far ((AtL.far (AtL.far (pl1) (j:=w.heap.size+1) oM 0 (O J c)) (j:=w.heap.size+1+1) oM 0 (O J p)).set 0 (U none 0 0)) (j:=w.heap.size+1) oM 0 (O J c)) (j:=w.heap.size+1+1) oM 0 (O J p)).drew;have t:=(AtL.far ((AtL.far (AtL.far ((k).set 0 (O J c)) (j:=w.heap.size+1+1) oM 0 (O J p)) (j:=w.heap.size) oM 0 (U none 0 0)).set 0 (O J c)) (j:=w.heap.size+1+1) oM 0 (O J p)).drew;have s:=((AtL.far (AtL.far ((AtL.far (g) (j:=w.heap.size+1) oM 0 (O J c)).set 0 (O J p)) (j:=w.heap.size) oM 0 (U none 0 0)) (j:=w.heap.size+1) oM 0 (O J c)).set 0 (O J p)).drew;have q:=((((((o).setCell (p:=⟨w.heap.size+1,0,none⟩) (show w.heap.size<=w.heap.size+1 by omega) (O J c)).setCell (p:=⟨w.heap.size+1+1,0,none⟩) (show w.heap.size<=w.heap.size+1+1 by omega) (O J p)).setCell (p:=⟨w.heap.size,0,none⟩) (show w.heap.size<=w.heap.size by omega) (U none 0 0)).setCell (p:=⟨w.heap.size+1,0,none⟩) (show w.heap.size<=w.heap.size+1 by omega) (O J c)).setCell (p:=⟨w.heap.size+1+1,0,none⟩) (show w.heap.size<=w.heap.size+1+1 by omega) (O J p)).drew;generalize ((((((K).setCell ⟨w.heap.size+1,0,none⟩ (O J c)).setCell ⟨w.heap.size+1+1,0,none⟩ (O J p)).setCell ⟨w.heap.size,0,none⟩ (U none 0 0)).setCell ⟨w.heap.size+1,0,none⟩ (O J c)).setCell ⟨w.heap.size+1+1,0,none⟩ (O J p)).drew=M at *
 simp [bodyPostD,Leaves];exact ⟨_,zQN _ _ _ _ _ _ _ _ rfl rfl rfl rfl u t s,rfl,q⟩
theorem PSt.new {W:wW} {kp:Nat} {ts:List Wlx.Tok} (j:V0 W B (U av ts.length cap) ts) (s:kp=W.heap.size):PSt (W.alloc (Z #[U av ts.length cap,O J en] 148)) kp (ts.map Wlx.tv) en:=by
 subst s;have t:=OwnV.of j;have q:=RdV.own t;have a:ts.length<=cap:=by
  rcases j.2 with ⟨e,u⟩ | ⟨g,f,o,e,z,y,x,_⟩
  ·omega
  ·simp only [U.injEq] at e;omega
 refine ⟨av,cap,by rw [qZ];exact a,by rw [qZ];exact AtL.new0 W 148 [U av ts.length cap,O J en],λi r=>?_⟩;obtain ⟨g,e,d,k,m,n⟩:=q i r;have b:=QJ (cZ _ W) (Z #[U av ts.length cap,O J en] 148);exact ⟨g,0,e,d,by rw [tZ];exact QC b k,by rw [tZ];exact QC b m,by rw [tZ];exact QC b n⟩
theorem zG8 (b:ByteArray) (w:wW) (hE:Env w) (hs:b.size<=9223372036854775807) (ts:List Wlx.Tok) (bd:8<=w.heap.size) (X:Qk b.data.toList=.inl ts):cW prog 53 #[V b] w λe w'=>zD7 w.heap.size (Vh (b.size:Int) (ts.map Wlx.tv)) e w'/\bL w w':=by
 have S:=λw hm=>zFZ b w hm hs
 have aT:b.data.toList.length=b.size:=by rw [Array.length_toList];rfl
 have hT:ts.length<=1024/\∀ t ∈ ts.map Wlx.tv,Qd t:=by
  unfold Qk at X;split at X
  ·cases X
  ·rename_i h
   have:=zIc _ 0 b.data.toList (dZ _) oM ts X;exact ⟨oM,this.2⟩
 have aO:b.size<=1024:=by
  unfold Qk at X;split at X
  ·cases X
  ·omega
 obtain ⟨hn,ap⟩:=hT;rw [X] at S;simp only [zCd] at S;clear X aT;obtain ⟨R,hR⟩:∃ R,R=Vh (b.size:Int) (ts.map Wlx.tv):=⟨_,rfl⟩
 rw [<-hR];have HR:hH (R=Vh (b.size:Int) (ts.map Wlx.tv)):=hR;clear hR;have u:=((hE.below (QJ (cZ _ w) (Z #[U none 0 0] 100))).below (QJ (cZ _ _) (Z #[O J 0] 28))).below (QJ (cZ _ _) (Z #[O J 0] 3));have ai:=QJ (QJ (QJ (cZ _ w) (Z #[U none 0 0] 100)) (Z #[O J 0] 28)) (Z #[O J 0] 3);have be:∀ (fn:Fn) (first cap:Array vW) (w:wW),(Instr.makeFunc fn first cap).run prog w=.ok (.func fn first cap) w:=λ_ _ _ _=>rfl
 have az:=((AtL.new0 w 100 [U none 0 0]).alloc (Z #[O J 0] 28)).alloc (Z #[O J 0] 3);have aw:=(AtL.new1 w (Z #[U none 0 0] 100) 28 [O J 0]).alloc (Z #[O J 0] 3);have aq:AtL (((w.alloc (Z #[U none 0 0] 100)).alloc (Z #[O J 0] 28)).alloc (Z #[O J 0] 3)) (w.heap.size+1+1) [O J 0]:=AtL.new _ 3 (by simp only [nZ]) _;generalize aE:((w.alloc (Z #[U none 0 0] 100)).alloc (Z #[O J 0] 28)).alloc (Z #[O J 0] 3)=W0 at u ai az aw aq;have aX:W0.heap.size=w.heap.size+1+1+1:=by rw [<-aE];simp only [nZ]
 go_enter_defers func53,ntmps53
 go_wp2_with fail
 refine (S _ u.2.2.1).mono ?_;rintro e w1 ⟨⟨v,rfl,hO⟩,g⟩;have pl1:=az.below g;have L:=aw.below g;have I:=aq.below g;have aS:=QA ai g;have aY:=g.size;clear g aE az aw aq ai u S;have l1:=pl1.2.1 0 _ rfl;have c1:=L.2.1 0 _ rfl;have a1:=I.2.1 0 _ rfl;have ba:=pl1.2.2 0 sM;have a8:=L.2.2 0 sM;have a4:=I.2.2 0 sM;obtain ⟨av,cap,hv,-⟩:=(OwnV.of hO).form;rw [qZ] at hv;subst hv;have T:=hO.lt;rw [aX] at T aY;have aD:V0 ((w1.setCell ⟨w.heap.size+1,0,none⟩ (O J 0)).setCell ⟨w.heap.size+1+1,0,none⟩ (O J 0)) W0.heap.size (U av ts.length cap) ts :=
  World.ownsRow.kept (World.ownsRow.kept hO (Q9 w1 (w.heap.size+1) 0 _) (sZ (λe=>by have:=(T _ e).1;omega))) (Q9 _ (w.heap.size+1+1) 0 _) (sZ (λe=>by have:=(T _ e).1;omega))
 have am:=PSt.new (kp:=w1.heap.size) (en:=(b.size:Int)) aD (by simp only [rZ]);have P:=AtL.alloc (AtL.far (AtL.far (pl1) (j:=w.heap.size+1) oM 0 (O J 0)) (j:=w.heap.size+1+1) oM 0 (O J 0)) (Z #[U av ts.length cap,O J (b.size:Int)] 148);have M:=AtL.alloc (AtL.far ((L).set 0 (O J 0)) (j:=w.heap.size+1+1) oM 0 (O J 0)) (Z #[U av ts.length cap,O J (b.size:Int)] 148);have K:=AtL.alloc ((AtL.far (I) (j:=w.heap.size+1) oM 0 (O J 0)).set 0 (O J 0)) (Z #[U av ts.length cap,O J (b.size:Int)] 148);have m:=QJ (((aS).setCell (p:=⟨w.heap.size+1,0,none⟩) (show w.heap.size<=w.heap.size+1 by omega) (O J 0)).setCell (p:=⟨w.heap.size+1+1,0,none⟩) (show w.heap.size<=w.heap.size+1+1 by omega) (O J 0)) (Z #[U av ts.length cap,O J (b.size:Int)] 148);have aZ:((((w1).setCell ⟨w.heap.size+1,0,none⟩ (O J 0)).setCell ⟨w.heap.size+1+1,0,none⟩ (O J 0)).alloc (Z #[U av ts.length cap,O J (b.size:Int)] 148)).heap.size=w1.heap.size+1:=by simp only [nZ,rZ]
 generalize aF:(((w1).setCell ⟨w.heap.size+1,0,none⟩ (O J 0)).setCell ⟨w.heap.size+1+1,0,none⟩ (O J 0)).alloc (Z #[U av ts.length cap,O J (b.size:Int)] 148)=W3 at am P M K m aZ;have u:=hE.below m;have a2:(ts.map Wlx.tv).length=ts.length:=qZ ..;have AL:=zNx w1.heap.size (b.size:Int) (lv (b.size:Int) (10 * (ts.map Wlx.tv).length+9) 0) (ts.map Wlx.tv).length (zGb w1.heap.size (b.size:Int) oM _) (Jo _ _ _) (ts.map Wlx.tv) W3 am (dZ _) oM ap u;have F:=λrow r h=>zM8 (b.size:Int) (10 * (ts.map Wlx.tv).length+9) 0 (ts.map Wlx.tv) row r ap h
 clear hO aD T am u ap;cases i:Vc (lv (b.size:Int) (10 * (ts.map Wlx.tv).length+9) 0) (b.size:Int) (ts.map Wlx.tv) with
 | inr q =>
  obtain ⟨c,p⟩:=q;rw [i] at AL;simp only [QT] at AL;go_wp2_with fail
  refine AL.mono ?_;rintro e w4 ⟨rfl,E⟩;have ae:=P.grown E (λe=>by have:=Option.some.inj e;omega);have ac:=M.grown E (λe=>by have:=Option.some.inj e;omega);have aa:=K.grown E (λe=>by have:=Option.some.inj e;omega);have s:bL w w4:=m.grown E (by have:=m.size;omega) (λk e=>by have:=Option.some.inj e;omega);clear E aF P M K m AL pl1 L I F;unfold JY;have o:hH (R=.inr (c,p)):=by
   show R=_
   rw [HR.out];unfold Vh;rw [i]
  clear HR i;go_wp2;refine leaves_cons (f:=80) (args:=#[pX (some ⟨w.heap.size,0,none⟩),pX (some ⟨w.heap.size+1,0,none⟩),pX (some ⟨w.heap.size+1+1,0,none⟩)]) sM (by simp [go_sem]) ?_;refine (zDO _ _ _ c p _ _ _ [] _ ae ac aa oM oM oM).mono ?_;rintro e u' w5 ⟨rfl,rfl,C,A,z,g⟩;have Q:bL w w5:=s.trans (g _ (dZ _) oM oM);rw [o.out];simp only [zD7];simp [Leaves,settle];exact ⟨_,zQN _ _ _ _ _ _ _ _ rfl rfl rfl rfl C A z,rfl,Q⟩
 | inl q =>
  obtain ⟨row,rr⟩:=q;have aK:(∀ x ∈ row,Wt.FitN x)/\row.length<=1024:=by
   unfold Vc at i;split at i
   ·cases i
   ·rename_i a3 hq
    simp only [Sum.inl.injEq,Prod.mk.injEq] at i;have:=F _ _ hq;rw [i.1] at this;exact ⟨this.1,by have:=this.2;omega⟩
   ·cases i
  rw [i] at AL;simp only [QT] at AL;go_wp2_with fail
  refine AL.mono ?_;rintro e w4 ⟨v,rfl,⟨n,x,sl,rfl,aJ⟩,-,E⟩;have ae:=P.grown E (λe=>by have:=Option.some.inj e;omega);have ac:=M.grown E (λe=>by have:=Option.some.inj e;omega);have aa:=K.grown E (λe=>by have:=Option.some.inj e;omega);have s:bL w w4:=m.grown E (by have:=m.size;omega) (λk e=>by have:=Option.some.inj e;omega);have bf:=E.size;clear E aF P M K m AL pl1 L I F;have RW:=zOD w.heap.size n x sl row (λb=>W3.heap.size<=b) (U none 0 0) [] w4 aJ (xZ _ _ _ _) (λb _=>by simp [Value.ownBlock]) s.size (by simp only [zZ];omega);clear aJ;rw [List.nil_append] at RW;go_wp2_with fail
  refine RW.mono ?_;rintro e w5 ⟨v5,rfl,aI,y,W⟩;have C:=ae.grown y (by simp [Value.ownBlock]);have A:=ac.grown y (by simp [Value.ownBlock]);have z:=aa.grown y (by simp [Value.ownBlock]);have Q:bL w w5:=s.grown y s.size (λk e=>by simp [Value.ownBlock] at e);have bg:=y.size;have H:OwnN w5 w.heap.size v5 row:=aI;clear aI;obtain ⟨d,a,rfl,-⟩:=H.form;have aG:(U d row.length a).ownBlock ≠ some w.heap.size:=by
   rcases W with h | ⟨b,h,h'⟩
   ·rw [h];simp [Value.ownBlock]
   ·rw [h];intro e;have:=Option.some.inj e;omega
  have ag:(U d row.length a).ownBlock ≠ some (w.heap.size+1):=by
   rcases W with h | ⟨b,h,h'⟩
   ·rw [h];simp [Value.ownBlock]
   ·rw [h];intro e;have:=Option.some.inj e;omega
  have aH:(U d row.length a).ownBlock ≠ some (w.heap.size+1+1):=by
   rcases W with h | ⟨b,h,h'⟩
   ·rw [h];simp [Value.ownBlock]
   ·rw [h];intro e;have:=Option.some.inj e;omega
  have ao:OwnN (w5.setCell ⟨w.heap.size,0,none⟩ (U d row.length a)) w.heap.size (U d row.length a) row:=World.ownsRow.kept H (Q9 w5 w.heap.size 0 _) (sZ aG);have ah:=ao.rd;clear RW y W H;have l5:=C.2.1 0 _ rfl;have c5:=A.2.1 0 _ rfl;have a5:=z.2.1 0 _ rfl;have aR:=C.2.2 0 sM;have aQ:=A.2.2 0 sM;have aP:=z.2.2 0 sM;have aN:=(C).set 0 (U d row.length a);have aM:=AtL.far (A) (j:=w.heap.size) oM 0 (U d row.length a);have aL:=AtL.far (z) (j:=w.heap.size) oM 0 (U d row.length a);have aj:=(Q).setCell (p:=⟨w.heap.size,0,none⟩) (show w.heap.size<=w.heap.size by omega) (U d row.length a);have CK:=zBZ d a row _ oM aK.1 (hE.below aj).1 ah;go_wp2_with fail
  refine CK.mono ?_;rintro e w7 ⟨rfl,g⟩;have af:=aN.below g;have ad:=aM.below g;have ab:=aL.below g;have aU:=ao.below g;have aC:=QA aj g;have a0:=g.size;simp only [rZ] at a0;clear g CK aN aM aL ao aj ah C A z Q l5 c5 a5 aR aQ aP ae ac aa s;have o:hH (R=if Wt.check row=0 then .inl row else .inr (Wt.check row,0)):=by
   show R=_
   rw [HR.out];unfold Vh;rw [i]
  clear HR i;generalize Wt.check row=D at *;have l7:=af.2.1 0 _ rfl;have c7:=ad.2.1 0 _ rfl;have a7:=ab.2.1 0 _ rfl;have bb:=af.2.2 0 sM;have a9:=ad.2.2 0 sM;have a6:=ab.2.2 0 sM;by_cases an:D=0
  ·subst an;rw [if_pos rfl] at o;go_wp2;have aV:OwnN (((((w7).setCell ⟨w.heap.size+1,0,none⟩ (O J 0)).setCell ⟨w.heap.size,0,none⟩ (U d row.length a)).setCell ⟨w.heap.size+1,0,none⟩ (O J 0)).setCell ⟨w.heap.size+1+1,0,none⟩ (O J 0)) w.heap.size (U d row.length a) row:=(World.ownsRow.kept ((World.ownsRow.kept ((World.ownsRow.kept ((World.ownsRow.kept (aU) (Q9 _ (w.heap.size+1) 0 (O J 0)) (sZ ag))) (Q9 _ (w.heap.size) 0 (U d row.length a)) (sZ aG))) (Q9 _ (w.heap.size+1) 0 (O J 0)) (sZ ag))) (Q9 _ (w.heap.size+1+1) 0 (O J 0)) (sZ aH))
   have aA:=AtL.far (AtL.far ((AtL.far (af) (j:=w.heap.size+1) oM 0 (O J 0)).set 0 (U d row.length a)) (j:=w.heap.size+1) oM 0 (O J 0)) (j:=w.heap.size+1+1) oM 0 (O J 0);have ax:=AtL.far ((AtL.far ((ad).set 0 (O J 0)) (j:=w.heap.size) oM 0 (U d row.length a)).set 0 (O J 0)) (j:=w.heap.size+1+1) oM 0 (O J 0);have ar:=(AtL.far (AtL.far (AtL.far (ab) (j:=w.heap.size+1) oM 0 (O J 0)) (j:=w.heap.size) oM 0 (U d row.length a)) (j:=w.heap.size+1) oM 0 (O J 0)).set 0 (O J 0);have ak:=((((aC).setCell (p:=⟨w.heap.size+1,0,none⟩) (show w.heap.size<=w.heap.size+1 by omega) (O J 0)).setCell (p:=⟨w.heap.size,0,none⟩) (show w.heap.size<=w.heap.size by omega) (U d row.length a)).setCell (p:=⟨w.heap.size+1,0,none⟩) (show w.heap.size<=w.heap.size+1 by omega) (O J 0)).setCell (p:=⟨w.heap.size+1+1,0,none⟩) (show w.heap.size<=w.heap.size+1+1 by omega) (O J 0);generalize (((((w7).setCell ⟨w.heap.size+1,0,none⟩ (O J 0)).setCell ⟨w.heap.size,0,none⟩ (U d row.length a)).setCell ⟨w.heap.size+1,0,none⟩ (O J 0)).setCell ⟨w.heap.size+1+1,0,none⟩ (O J 0))=W8 at *;refine leaves_cons (f:=80) (args:=#[pX (some ⟨w.heap.size,0,none⟩),pX (some ⟨w.heap.size+1,0,none⟩),pX (some ⟨w.heap.size+1+1,0,none⟩)]) sM (by simp [go_sem]) ?_
   refine (zBX _ _ _ _).mono ?_;rintro e u' w9 ⟨rfl,rfl,g⟩;have aB:=aA.below g;have ay:=ax.below g;have au:=ar.below g;have al:=QA ak g;have aW:=aV.below g;rw [o.out];simp only [zD7];simp [Leaves,settle];exact ⟨_,zQN _ _ _ _ _ _ _ _ rfl rfl rfl rfl aB ay au,⟨_,rfl,aW⟩,al⟩
  ·have bc:(D != 0)=true:=by simp [an]
   rw [if_neg an] at o;go_wp2;go_region
   go_wp2;have aA:=(AtL.far (AtL.far ((AtL.far (af) (j:=w.heap.size+1) oM 0 (O J D)).set 0 (U none 0 0)) (j:=w.heap.size+1) oM 0 (O J D)) (j:=w.heap.size+1+1) oM 0 (O J 0)).drew;have ax:=(AtL.far ((AtL.far ((ad).set 0 (O J D)) (j:=w.heap.size) oM 0 (U none 0 0)).set 0 (O J D)) (j:=w.heap.size+1+1) oM 0 (O J 0)).drew;have ar:=((AtL.far (AtL.far (AtL.far (ab) (j:=w.heap.size+1) oM 0 (O J D)) (j:=w.heap.size) oM 0 (U none 0 0)) (j:=w.heap.size+1) oM 0 (O J D)).set 0 (O J 0)).drew;have ak:=(((((aC).setCell (p:=⟨w.heap.size+1,0,none⟩) (show w.heap.size<=w.heap.size+1 by omega) (O J D)).setCell (p:=⟨w.heap.size,0,none⟩) (show w.heap.size<=w.heap.size by omega) (U none 0 0)).setCell (p:=⟨w.heap.size+1,0,none⟩) (show w.heap.size<=w.heap.size+1 by omega) (O J D)).setCell (p:=⟨w.heap.size+1+1,0,none⟩) (show w.heap.size<=w.heap.size+1+1 by omega) (O J 0)).drew;generalize (((((w7).setCell ⟨w.heap.size+1,0,none⟩ (O J D)).setCell ⟨w.heap.size,0,none⟩ (U none 0 0)).setCell ⟨w.heap.size+1,0,none⟩ (O J D)).setCell ⟨w.heap.size+1+1,0,none⟩ (O J 0)).drew=W8 at *;refine leaves_cons (f:=80) (args:=#[pX (some ⟨w.heap.size,0,none⟩),pX (some ⟨w.heap.size+1,0,none⟩),pX (some ⟨w.heap.size+1+1,0,none⟩)]) sM (by simp [go_sem]) ?_
   refine (zBX _ _ _ _).mono ?_;rintro e u' w9 ⟨rfl,rfl,g⟩;have aB:=aA.below g;have ay:=ax.below g;have au:=ar.below g;have al:=QA ak g;rw [o.out];simp only [zD7];simp [Leaves,settle];exact ⟨_,zQN _ _ _ _ _ _ _ _ rfl rfl rfl rfl aB ay au,rfl,al⟩
theorem zCt:∀ (n:Nat) (p:Nat) (l:List UInt8),l.length<=n->∀ c q,Wlx.scan p l=.inr (c,q)->c ≠ 0:=by
 intro n;induction n with
 | zero=>intro p l h c q a;obtain rfl:=mZ (Nat.le_zero.1 h);rw [Wlx.scan_nil] at a;cases a
 | succ n d =>
  intro p l h c q a;cases l with
  | nil=>rw [Wlx.scan_nil] at a;cases a
  | cons b t =>
   rw [Wlx.scan_cons] at a;simp only [bZ] at h;split at a
   ·exact d _ t oM _ _ a
   split at a
   ·simp only [Wlx.Res.err,Sum.inr.injEq,Prod.mk.injEq] at a;have:=a.1;split at this <;> omega
   rename_i e
   split at a
   ·simp only [Wlx.Res.err,Sum.inr.injEq,Prod.mk.injEq] at a;omega
   have j:=Wlx.hit_pos e;generalize Wlx.sz (Wlx.hit (b::t)) (b::t)=m at *;generalize f:Wlx.scan (p+m) ((b::t).drop m)=R at a;cases R with
   | inl o=>cases a
   | inr g =>
    obtain ⟨i,k⟩:=g;simp only [Wlx.Res.cons,Sum.inr.injEq,Prod.mk.injEq] at a;have:=d (p+m) ((b::t).drop m) (by rw [jZ];simp only [bZ];omega) _ _ f;rw [<-a.1];exact this
theorem zCy {c p:Nat} (h:Qk l=.inr (c,p)):c ≠ 0:=by
 unfold Qk at h;split at h
 ·simp only [Wlx.Res.err,Sum.inr.injEq,Prod.mk.injEq] at h;omega
 ·exact zCt _ 0 l (dZ _) _ _ h
theorem zBs (b:ByteArray) (w:wW) (f:Env w) (g:b.size<=9223372036854775807) (a:8<=w.heap.size):cW prog 53 #[V b] w λe w'=>zD7 w.heap.size (V5 b.data.toList) e w'/\bL w w':=by
 unfold V5;cases d:Qk b.data.toList with
 | inr q =>
  obtain ⟨c,p⟩:=q;exact (zHc b w f g c p (zCy d) d).mono λe w' h=>⟨h.1,h.2⟩
 | inl ts =>
  have:=zG8 b w f g ts a d;have e:b.data.toList.length=b.size:=by rw [Array.length_toList];rfl
  rw [e];exact this
theorem zNG (h:pl ts en=.inr (c,p)):c ≠ 0:=by
 unfold pl at h;split at h
 ·cases h
 ·simp only [Sum.inr.injEq,Prod.mk.injEq] at h;omega
theorem zHJ (h:pc ts en=.inr (c,p)):c ≠ 0:=by
 unfold pc at h;repeat' split at h
 all_goals first | (simp only [Sum.inr.injEq,Prod.mk.injEq] at h;omega) | cases h
theorem zF6 {s:ByteArray} (h:pcs s ts en=.inr (c,p)):c ≠ 0:=by
 unfold pcs at h;cases b:pc ts en with
 | inr e=>rw [b] at h;simp only [Sum.inr.injEq] at h;rw [h] at b;exact zHJ b
 | inl q =>
  obtain ⟨a,g⟩:=q;rw [b] at h;simp only at h;cases f:tk g [58] with
  | none=>rw [f] at h;cases h
  | some i =>
   rw [f] at h;simp only at h;cases d:pc i en with
   | inr e=>rw [d] at h;simp only [Sum.inr.injEq] at h;rw [h] at d;exact zHJ d
   | inl q=>rw [d] at h;cases h
theorem zJT (d:∀ ts row r,sub ts=.inl (row,r)->r <:+ ts) (a:∀ ts c p,ts.length<=N->sub ts=.inr (c,p)->c ≠ 0) (k:Int):∀ (n:Nat) (row:List Wt.Nd) (ts:List Wlx.TV) (c p:Int),ts.length<=N->more sub k n row ts=.inr (c,p)->c ≠ 0:=by
 intro n;induction n with
 | zero=>intro row ts c p i h;cases h
 | succ n j =>
  intro row ts c p i h;simp only [more] at h;cases f:Jc k ts with
  | none=>rw [f] at h;cases h
  | some q =>
   obtain ⟨o,m⟩:=q;rw [f] at h;simp only at h;have t:=(Qu f).2;cases b:sub m with
   | inr e=>rw [b] at h;simp only [Sum.inr.injEq] at h;rw [h] at b;exact a _ _ _ oM b
   | inl q =>
    obtain ⟨g,s⟩:=q;rw [b] at h;simp only at h;have:=(d _ _ _ b).length_le;exact j _ _ _ _ oM h
theorem zIL (f:∀ ts row r,sub ts=.inl (row,r)->r <:+ ts) (b:∀ ts c p,ts.length<=N->sub ts=.inr (c,p)->c ≠ 0) (en:Int):∀ (n g:Nat) (a:List Wt.Nd) (ts:List Wlx.TV) (c p:Int),ts.length<=N->VB sub en n g a ts=.inr (c,p)->c ≠ 0:=by
 intro n;induction n with
 | zero=>intro g a ts c p k h;simp only [VB,Sum.inr.injEq,Prod.mk.injEq] at h;omega
 | succ n m =>
  intro g a ts c p k h;simp only [VB] at h;cases j:tk ts [41] with
  | some q=>rw [j] at h;cases h
  | none =>
   rw [j] at h;simp only at h;split at h
   ·simp only [Sum.inr.injEq,Prod.mk.injEq] at h;omega
   ·cases i:tk ts [44] with
    | none=>rw [i] at h;simp only [Sum.inr.injEq,Prod.mk.injEq] at h;omega
    | some o =>
     rw [i] at h;simp only at h;have t:=(JH i).2;cases d:sub o with
     | inr e=>rw [d] at h;simp only [Sum.inr.injEq] at h;rw [h] at d;exact b _ _ _ oM d
     | inl q =>
      obtain ⟨row,s⟩:=q;rw [d] at h;simp only at h;have:=(f _ _ _ d).length_le;exact m _ _ _ _ _ oM h
theorem zGn (b:∀ ts row r,sub ts=.inl (row,r)->r <:+ ts) (a:∀ ts c p,ts.length<=N->sub ts=.inr (c,p)->c ≠ 0) (en:Int) (nm:List UInt8) (ts:List Wlx.TV) (c p:Int) (k:ts.length<=N) (h:VL sub en nm ts=.inr (c,p)):c ≠ 0:=by
 unfold VL at h;cases i:tk ts [41] with
 | some q=>rw [i] at h;cases h
 | none =>
  rw [i] at h;simp only at h;cases d:sub ts with
  | inr e=>rw [d] at h;simp only [Sum.inr.injEq] at h;rw [h] at d;exact a _ _ _ k d
  | inl q =>
   obtain ⟨f,j⟩:=q;rw [d] at h;simp only at h;have:=(b _ _ _ d).length_le;cases g:VB sub en (j.length+1) 1 f j with
   | inr e=>rw [g] at h;simp only [Sum.inr.injEq] at h;rw [h] at g;exact zIL b a en _ _ _ _ _ _ oM g
   | inl q=>rw [g] at h;cases h
theorem zGq (b:∀ ts row r,sub ts=.inl (row,r)->r <:+ ts) (a:∀ ts c p,ts.length<=N->sub ts=.inr (c,p)->c ≠ 0) (en:Int) (ts:List Wlx.TV) (c p:Int) (d:ts.length<=N+2) (h:VD sub en ts=.inr (c,p)):c ≠ 0:=by
 unfold VD at h;split at h
 ·split at h
  ·exact zGn b a en _ _ _ _ (by rw [jZ];omega) h
  ·simp only [Sum.inr.injEq,Prod.mk.injEq] at h;omega
 split at h
 ·split at h
  ·exact zF6 h
  ·simp only [Sum.inr.injEq,Prod.mk.injEq] at h;omega
 split at h
 ·cases h
 split at h
 ·cases h
 ·exact zF6 h
theorem zEu  (a:∀ ts c p,ts.length<=N->sub ts=.inr (c,p)->c ≠ 0) (en:Int) (ts:List Wlx.TV) (c p:Int) (k:ts.length<=N+1) (h:J8 sub en ts=.inr (c,p)):c ≠ 0:=by
 unfold J8 at h;cases d:tk ts [40] with
 | none=>rw [d] at h;simp only [Sum.inr.injEq,Prod.mk.injEq] at h;omega
 | some i =>
  rw [d] at h;simp only at h;have n:=(JH d).2;cases b:sub i with
  | inr e=>rw [b] at h;simp only [Sum.inr.injEq] at h;rw [h] at b;exact a _ _ _ oM b
  | inl q =>
   obtain ⟨g,j⟩:=q;rw [b] at h;simp only at h;cases f:tk j [41] with
   | none=>rw [f] at h;simp only [Sum.inr.injEq,Prod.mk.injEq] at h;omega
   | some m=>rw [f] at h;cases h
theorem zMJ:∀ (n:Nat) (row:List Wt.Nd) (ts:List Wlx.TV) (c p:Int),pct n row ts=.inr (c,p)->False:=by
 intro n;induction n with
 | zero=>intro row ts c p h;cases h
 | succ n b =>
  intro row ts c p h;simp only [pct] at h;cases a:Jc 6 ts with
  | none=>rw [a] at h;cases h
  | some q=>obtain ⟨o,d⟩:=q;rw [a] at h;simp only at h;exact b _ _ _ _ h
theorem zNq (en:Int):∀ (f k:Nat) (ts:List Wlx.TV) (c p:Int),k<=7->(if k<5 then 10 * ts.length+9 - k else if k=5 then 10 * ts.length+4 else if k=6 then 10 * ts.length+3 else 10 * ts.length+2)<=f->lv en f k ts=.inr (c,p)->c ≠ 0:=by
 intro f;induction f with
 | zero =>
   intro k ts c p A b h;repeat' split at b
   all_goals omega
 | succ f g =>
  intro k ts c p A b h;by_cases s:k<5
  ·rw [if_pos s] at b;rw [zNP _ _ _ s] at h;unfold pbt at h;have y:∀ d c p,d.length<=ts.length->lv en f (k+1) d=.inr (c,p)->c ≠ 0:=by
    intro d c p z i;refine g (k+1) d c p oM ?_ i;split
    ·omega
    ·rw [if_pos oM];omega
   cases a:lv en f (k+1) ts with
   | inr e=>rw [a] at h;simp only [Sum.inr.injEq] at h;rw [h] at a;exact y _ _ _ (dZ _) a
   | inl q =>
    obtain ⟨j,n⟩:=q;rw [a] at h;simp only at h;have:=(Jo en _ _ _ _ _ a).length_le;exact zJT (N:=ts.length) (Jo en f (k+1)) y _ _ _ _ _ _ oM h
  rw [if_neg s] at b;by_cases u:k=5
  ·subst u;rw [if_pos rfl] at b;rw [zNI] at h;unfold psg at h;cases a:Jc 5 ts with
   | none=>rw [a] at h;exact g 6 ts c p oM (by simp;omega) h
   | some q =>
    obtain ⟨o,n⟩:=q;rw [a] at h;simp only at h;have C:=(Qu a).2;cases m:lv en f 5 n with
    | inr e=>rw [m] at h;simp only [Sum.inr.injEq] at h;rw [h] at m;exact g 5 n c p oM (by simp;omega) m
    | inl q=>rw [m] at h;cases h
  rw [if_neg u] at b;by_cases x:k=6
  ·subst x;rw [if_pos rfl] at b;rw [zOE] at h;unfold ppc at h;cases a:lv en f 7 ts with
   | inr e=>rw [a] at h;simp only [Sum.inr.injEq] at h;rw [h] at a;exact g 7 ts c p oM (by simp;omega) a
   | inl q=>obtain ⟨j,n⟩:=q;rw [a] at h;simp only at h;exact (zMJ _ _ _ _ _ h).elim
  rw [if_neg x] at b;obtain rfl:k=7:=oM;rw [zMy] at h;unfold psi at h;split at h
  ·rename_i r
   cases ts with
   | nil=>exact absurd r (by rw [zCK];decide)
   | cons t q =>
    simp only [bZ] at b;refine zGq (N:=q.length) (Jo en f 0) (λd c p z i=>g 0 d c p oM (by simp;omega) i) en _ _ _ (by simp only [bZ];omega) h
  split at h
  ·cases ts with
   | nil=>rename_i r;exact absurd r (by rw [zCK];decide)
   | cons t q =>
    simp only [bZ] at b;refine zEu (N:=q.length) (λd c p z i=>g 0 d c p oM (by simp;omega) i) en _ _ _ (by simp only [bZ];omega) h
  ·exact zNG h
theorem zDE (h:V5 l=.inr (c,p)):c ≠ 0:=by
 unfold V5 at h;cases b:Qk l with
 | inr q =>
  obtain ⟨f,i⟩:=q;rw [b] at h;simp only [Sum.inr.injEq,Prod.mk.injEq] at h;have:=zCy b;omega
 | inl ts =>
  rw [b] at h;simp only at h;unfold Vh at h;cases a:Vc (lv (l.length:Int) (10 * (ts.map Wlx.tv).length+9) 0) (l.length:Int) (ts.map Wlx.tv) with
  | inr q =>
   rw [a] at h;simp only [Sum.inr.injEq] at h;subst h;unfold Vc at a;split at a
   ·rename_i e d
    simp only [Sum.inr.injEq] at a;subst a;exact zNq _ _ 0 _ _ _ oM sM d
   ·cases a
   ·simp only [Sum.inr.injEq,Prod.mk.injEq] at a;omega
  | inl q =>
   obtain ⟨row,rr⟩:=q;rw [a] at h;simp only at h;split at h
   ·cases h
   ·rename_i g
    simp only [Sum.inr.injEq,Prod.mk.injEq] at h;omega
theorem zKz {row:List Wt.Nd} (h:V5 l=.inl row):(∀ x ∈ row,Wt.FitN x)/\Wt.check row=0:=by
 unfold V5 at h;cases b:Qk l with
 | inr q =>
  obtain ⟨j,k⟩:=q;rw [b] at h;cases h
 | inl ts =>
  rw [b] at h;simp only at h;have d:∀ t ∈ ts.map Wlx.tv,Qd t:=by
   unfold Qk at b;split at b
   ·cases b
   ·exact (zIc _ 0 l (dZ _) oM ts b).2
  unfold Vh at h;cases a:Vc (lv (l.length:Int) (10 * (ts.map Wlx.tv).length+9) 0) (l.length:Int) (ts.map Wlx.tv) with
  | inr q=>rw [a] at h;cases h
  | inl q =>
   obtain ⟨f,rr⟩:=q;rw [a] at h;simp only at h;split at h
   ·rename_i g
    simp only [Sum.inl.injEq] at h;subst h;refine ⟨?_,g⟩;unfold Vc at a;split at a
    ·cases a
    ·rename_i e i
     simp only [Sum.inl.injEq,Prod.mk.injEq] at a;rw [<-a.1];exact (zM8 _ _ _ _ _ _ d i).1
    ·cases a
   ·cases h
open Go.RowKit Wf
theorem zAB {P:Program} {f:Func} {t s u:Tmp} {T:TypeId} (h:f.results=#[.cell t T,.tmp s,.tmp u]) (a:Array vW) (w:wW) (b:Nat) (cs:List vW) (d:TypeDesc) (k:a.getD t undef=pX (some ⟨b,0,none⟩)) (g:w.rangeAt b 0 cs)
  (m:P.underlying T=some d) (hd:d.isRow=true) (i:(P.info? T).map (·.size)=some cs.length):(results f a).run P w=.ok (uX #[gX cs.toArray,a.getD s undef,a.getD u undef]) w:=by
 have j:=run_loadVar_mid (P:=P) w b 0 T cs d g m hd i;have e:a[t]?.getD undef=pX (some ⟨b,0,none⟩):=by rw [<-k];simp
 simp only [results,h];simp [e,j,asAddr]
def BEnv (w:wW):Prop:=Env w/\NmAt w/\8<=w.heap.size
theorem BEnv.below (h:BEnv w) (a:bL w w'):BEnv w':=⟨h.1.below a,h.2.1.below a,fZ h.2.2 a.size⟩
def zSC (t:ByteArray) (R:List I ⊕ (Int × Int)) (w:wW) (e:Ending) (w':wW):Prop :=
 (
   match R with
   | .inl C=>∃ f:Ct,f.t=t/\CdP w' w.heap.size f.v C/\e=rX (uX #[ctV f,O J 0,O J 0])
   | .inr q=>q.1 ≠ 0/\e=rX (uX #[ctV ct0,O J q.1,O J q.2]))/\bL w w'
def VQ (nm:List ByteArray) (x:Wpl.Cl) (t:ByteArray) (R:List I ⊕ (Int × Int)):Prop :=
 ∀ (b f:Nat) (d:Option Addr) (e:Nat) (a:Int) (w:wW),BEnv w->AtL w b [U d nm.length e,O J a,.map (some f)]->RdS w d nm->nm.length<=e ->
  cW prog 37 #[pX (some ⟨b,0,none⟩),gX #[O J x.s,O J x.r,O J x.c],V t] w (zSC t R w)
theorem zJ6 (nm:List ByteArray) (x:Wpl.Cl) (t:ByteArray) (h:1024<t.size) (n:t.size<=9223372036854775807):VQ nm x t (.inr (2,0)):=by
 intro k o u y i w d hd f e;have a:=QJ (QJ (cZ _ w) (Z #[O J x.s,O J x.r,O J x.c] 36)) (Z #[V ⟨#[]⟩,U none 0 0] 57);have q:=AtL.new1 w (Z #[O J x.s,O J x.r,O J x.c] 36) 57 [V ⟨#[]⟩,U none 0 0];have m:(1024:Int)<(t.size:Int):=oM;clear d hd f e h;go_enter func37,ntmps37;go_upto_region 1 with fail
 generalize (w.alloc (Z #[O J x.s,O J x.r,O J x.c] 36)).alloc (Z #[V ⟨#[]⟩,U none 0 0] 57)=j at *;go_upto_region 2 with fail
 have g:=(q.set 0 (V ⟨#[]⟩)).set 1 (U none 0 0);have b:=(a.setCell (p:=⟨w.heap.size+1,0,none⟩) (iZ _) (V ⟨#[]⟩)).setCell (p:=⟨w.heap.size+1,1,none⟩) (iZ _) (U none 0 0);obtain ⟨_,_,C,D⟩:=q.two;obtain ⟨_,_,z,A⟩:=(q.set 0 (V ⟨#[]⟩)).two;go_wp2;refine bodyPost_ret (zAB (by rfl) _ _ (w.heap.size+1) [V ⟨#[]⟩,U none 0 0] _ (by rfl) g.range underlying57 rfl kR) rfl ⟨⟨dM,rfl⟩,b⟩
theorem zKh (nm:List ByteArray) (x:Wpl.Cl) (t:ByteArray) (h:t.size<=1024) (n:Nat) (g:fgn t.data.toList 0=(n:Int)):VQ nm x t (.inr (111,(n:Int))):=by
 intro y C D E o w i hd k j;have a:=QJ (QJ (cZ _ w) (Z #[O J x.s,O J x.r,O J x.c] 36)) (Z #[V ⟨#[]⟩,U none 0 0] 57);have q:=AtL.new1 w (Z #[O J x.s,O J x.r,O J x.c] 36) 57 [V ⟨#[]⟩,U none 0 0];have z:¬ (1024:Int)<(t.size:Int):=oM;have d:=λW=>zAL t W h
 rw [g] at d;have A:(0:Int)<=(n:Int):=oM;clear i hd k j h g;go_enter func37,ntmps37;go_upto_region 1 with fail
 generalize (w.alloc (Z #[O J x.s,O J x.r,O J x.c] 36)).alloc (Z #[V ⟨#[]⟩,U none 0 0] 57)=u at *;go_wp2_with fail
 refine (d _).mono ?_;rintro e F ⟨rfl,b⟩;replace q:=AtL.below b q
 replace a:=QA a b
 clear d b;go_upto_region 5 with fail
 have m:=(q.set 0 (V ⟨#[]⟩)).set 1 (U none 0 0);have f:=(a.setCell (p:=⟨w.heap.size+1,0,none⟩) (iZ _) (V ⟨#[]⟩)).setCell (p:=⟨w.heap.size+1,1,none⟩) (iZ _) (U none 0 0);obtain ⟨_,_,K,L⟩:=q.two;obtain ⟨_,_,H,I⟩:=(q.set 0 (V ⟨#[]⟩)).two;go_wp2;refine bodyPost_ret (zAB (by rfl) _ _ (w.heap.size+1) [V ⟨#[]⟩,U none 0 0] _ (by rfl) m.range underlying57 rfl kR) rfl ⟨⟨by show (111:Int) ≠ 0;decide,rfl⟩,f⟩
theorem zFr (nm:List ByteArray) (x:Wpl.Cl) (t:ByteArray) (h:t.size<=1024) (i:fgn t.data.toList 0 = -1) (j:¬ t.data.toList.head? = some 61):VQ nm x t (.inl []):=by
 intro z C D E u w k hd n m;have a:=QJ (QJ (cZ _ w) (Z #[O J x.s,O J x.r,O J x.c] 36)) (Z #[V ⟨#[]⟩,U none 0 0] 57);have q:=AtL.new1 w (Z #[O J x.s,O J x.r,O J x.c] 36) 57 [V ⟨#[]⟩,U none 0 0];have A:¬ (1024:Int)<(t.size:Int):=oM;have d:=λW=>zAL t W h
 have g:=λW=>zNN t W j
 rw [i] at d;clear k hd n m h i j;go_enter func37,ntmps37;go_upto_region 1 with fail
 generalize (w.alloc (Z #[O J x.s,O J x.r,O J x.c] 36)).alloc (Z #[V ⟨#[]⟩,U none 0 0] 57)=y at *;go_wp2_with fail
 refine (d _).mono ?_;rintro e F ⟨rfl,b⟩;replace q:=AtL.below b q
 replace a:=QA a b
 clear d b;go_wp2_with fail
 refine (g _).mono ?_;rintro e H ⟨rfl,rfl⟩;clear g;go_upto_region 8 with fail
 have o:=(q.set 0 (V t)).set 1 (U none 0 0);have f:=(a.setCell (p:=⟨w.heap.size+1,0,none⟩) (iZ _) (V t)).setCell (p:=⟨w.heap.size+1,1,none⟩) (iZ _) (U none 0 0);obtain ⟨_,_,L,M⟩:=q.two;obtain ⟨_,_,I,K⟩:=(q.set 0 (V t)).two;go_wp2;refine bodyPost_ret (zAB (by rfl) _ _ (w.heap.size+1) [V t,U none 0 0] _ (by rfl) o.range underlying57 rfl kR) rfl ⟨⟨⟨t,none,0,0⟩,rfl,CdP.nil _ _,rfl⟩,f⟩
theorem zKU (nm:List ByteArray) (x:Wpl.Cl) (u:List UInt8) (t:ByteArray) (o:t=⟨(61::u).toArray⟩) (h:t.size<=1024) (C:fgn t.data.toList 0 = -1) (c p:Int) (n:V5 u=.inr (c,p)):VQ nm x t (.inr (c,wrap64 (p+1))):=by
 intro P R S T K w A hd H F;have a:=QJ (QJ (cZ _ w) (Z #[O J x.s,O J x.r,O J x.c] 36)) (Z #[V ⟨#[]⟩,U none 0 0] 57);have q:=AtL.new1 w (Z #[O J x.s,O J x.r,O J x.c] 36) 57 [V ⟨#[]⟩,U none 0 0];have Q:¬ (1024:Int)<(t.size:Int):=oM;have j:=λW=>zAL t W h
 have y:u.length<=1024:=by
  have:t.size=u.length+1:=by rw [o];rfl
  omega
 have i:=λW=>zCm u W oM
 rw [<-o] at i;have m:=zDE n;have g:hH (∀ W,BEnv W->CR 53 #[V ⟨u.toArray⟩] W (uX #[U none 0 0,O J c,O J p])):=λW hW=>by
  have:=zBs ⟨u.toArray⟩ W hW.1 (by show u.length<=_;omega) hW.2.2;rw [n] at this;exact this
 have z:hH (BEnv w):=A;rw [C] at j;have D:hH (c ≠ 0):=m;have E:¬ c=0:=m;clear A hd H F h C n o y m;go_enter func37,ntmps37;go_upto_region 1 with fail
 generalize (w.alloc (Z #[O J x.s,O J x.r,O J x.c] 36)).alloc (Z #[V ⟨#[]⟩,U none 0 0] 57)=M at *;go_wp2_with fail
 refine (j _).mono ?_;rintro e L ⟨rfl,b⟩;replace q:=AtL.below b q
 replace a:=QA a b
 have f:hH (BEnv L):=z.out.below a;clear j b;go_wp2_with fail
 refine (i _).mono ?_;rintro e X ⟨rfl,rfl⟩;clear i;go_wp2_with fail
 refine (g.out _ f.out).mono ?_;rintro e w3 ⟨rfl,d⟩;replace q:=AtL.below d q
 replace a:=QA a d
 clear d g z f;go_upto_region 11 with fail
 have I:=(q.set 0 (V ⟨#[]⟩)).set 1 (U none 0 0);have k:=(a.setCell (p:=⟨w.heap.size+1,0,none⟩) (iZ _) (V ⟨#[]⟩)).setCell (p:=⟨w.heap.size+1,1,none⟩) (iZ _) (U none 0 0);obtain ⟨_,_,z0,z1⟩:=q.two;obtain ⟨_,_,y0,y1⟩:=(q.set 0 (V ⟨#[]⟩)).two;go_wp2;refine bodyPost_ret (zAB (by rfl) _ _ (w.heap.size+1) [V ⟨#[]⟩,U none 0 0] _ (by rfl) I.range underlying57 rfl kR) rfl ⟨⟨D.out,rfl⟩,k⟩
def zQR (nm:List ByteArray) (x:Wpl.Cl) (row:List Wt.Nd) (E:Int) (C:List I):Prop :=
 ∀ (w:wW) (B:Nat) (v:vW) (a:Option Addr) (b:Nat),NmAt w->OpsAt w->OwnN w B v row->RdS w a nm->nm.length<=b->cW prog 54 #[v,gX #[O J x.s,O J x.r,O J x.c],U a nm.length b] w (FlP E C w)
theorem zH1 (nm:List ByteArray) (x:Wpl.Cl) (u:List UInt8) (t:ByteArray) (T:t=⟨(61::u).toArray⟩) (h:t.size<=1024) (hf:fgn t.data.toList 0 = -1) (row:List Wt.Nd) (hp:V5 u=.inl row) (E:Int) (C:List I) (L:zQR nm x row E C) (y:E ≠ 0):VQ nm x t (.inr (E,0)):=by
 intro bb mb na nk ab w hE hd hr hk;have a:=QJ (QJ (cZ _ w) (Z #[O J x.s,O J x.r,O J x.c] 36)) (Z #[V ⟨#[]⟩,U none 0 0] 57);have q:=AtL.new1 w (Z #[O J x.s,O J x.r,O J x.c] 36) 57 [V ⟨#[]⟩,U none 0 0];have hi:¬ (1024:Int)<(t.size:Int):=oM;have Q:=λW=>zAL t W h
 have X:u.length<=1024:=by
  have:t.size=u.length+1:=by rw [T];rfl
  omega
 have P:=λW=>zCm u W oM
 rw [<-T] at P;have D:hH (∀ W,BEnv W->cW prog 53 #[V ⟨u.toArray⟩] W λe w'=>(∃ v,e=rX (uX #[v,O J 0,O J 0])/\OwnN w' W.heap.size v row)/\bL W w'):=λW hW=>by
  have:=zBs ⟨u.toArray⟩ W hW.1 (by show u.length<=_;omega) hW.2.2;rw [hp] at this;exact this
 have HE:=hid hE;have HR:=hid hr;have HK:=hid hk;have A:=hid L;have i:=AtL.f3 ((AtL.new0 w 36 [O J x.s,O J x.r,O J x.c]).alloc (Z #[V ⟨#[]⟩,U none 0 0] 57));obtain ⟨g,_,_,_⟩:=(AtL.below a hd).three;rw [hf] at Q;have z:=hid y;have aa:¬ E=0:=y;clear hE hd hr hk h hf hp T X L y;go_enter func37,ntmps37;go_upto_region 1 with fail
 generalize (w.alloc (Z #[O J x.s,O J x.r,O J x.c] 36)).alloc (Z #[V ⟨#[]⟩,U none 0 0] 57)=W0 at *;go_wp2_with fail
 refine (Q _).mono ?_;rintro e w1 ⟨rfl,j⟩;replace q:=AtL.below j q
 replace a:=QA a j
 replace i:=QH j i
 replace g:=QC j g
 have n:=hid (HE.out.below a);have F:=hid (RdS.below HR.out a);clear Q j HE HR;go_wp2_with fail
 refine (P _).mono ?_;rintro e w2 ⟨rfl,rfl⟩;clear P;go_wp2_with fail
 refine (D.out _ n.out).mono ?_;rintro e M ⟨⟨v,rfl,hv⟩,f⟩;replace q:=AtL.below f q
 replace a:=QA a f
 replace i:=QH f i
 replace g:=QC f g
 have o:=hid (n.out.below f);have H:=hid (RdS.below F.out f);clear f D n F;go_upto_region 12 with fail
 have b:=(cZ M.heap.size M).drew;refine wp_region_held_drew (S:=λW=>W.cell? ⟨bb,0,none⟩=some (U na nm.length nk)/\JI W w.heap.size (O J x.s) (O J x.r) (O J x.c)) kR ⟨QC b g,QH b i⟩ (λd=>?_);replace i:=QH b i
 replace g:=QC b g
 replace q:=AtL.below b q
 replace a:=QA a b
 have FL:=A.out M.drew _ v na nk (o.out.2.1.below b) (o.out.1.1.below b) (hv.below b) (H.out.below b) HK.out;have HS:=hid (And.intro a.size q.lt);clear b o H hv A;generalize M.drew=W4 at *;refine tkQ 0 ?_
 refine tkQ 1 ?_
 refine tkQ 2 ?_
 refine tkQ 3 ?_
 refine tkQ 4 ?_
 refine tkQ 5 ?_
 refine rdQ 6 (λK m=>?_);go_simp
 refine FL.mono ?_;rintro e w5 ⟨⟨_,rfl⟩ | ⟨e0,_⟩,k⟩
 case inr=>exact absurd e0 z.out
 replace i:=QH k i
 replace g:=QC k g
 replace q:=AtL.below k q
 replace a:=QA a k
 clear k FL;go_wp2_with fail
 refine hkQ m ⟨g,i⟩ (λd=>?_);clear m K
 refine tkQ 7 ?_
 refine tkQ 8 ?_
 refine tkQ 9 ?_
 refine rdQ 10 (λK m=>?_);go_simp
 refine hkQ m ⟨g,i⟩ (λd=>?_);clear m K
 refine rdQ 11 (λK m=>?_);go_simp
 refine hkQ m ⟨g,i⟩ (λd=>?_);clear m K
 refine wpAnyH_done kR ?_ _;clear d g i;go_upto_region 14 with fail
 have q2:=(q.set 0 (V ⟨#[]⟩)).set 1 (U none 0 0);have R:=(a.setCell (p:=⟨w.heap.size+1,0,none⟩) (iZ _) (V ⟨#[]⟩)).setCell (p:=⟨w.heap.size+1,1,none⟩) (iZ _) (U none 0 0);obtain ⟨_,_,z0,z1⟩:=q.two;obtain ⟨_,_,y0,y1⟩:=(q.set 0 (V ⟨#[]⟩)).two;go_wp2;refine bodyPost_ret (zAB (by rfl) _ _ (w.heap.size+1) [V ⟨#[]⟩,U none 0 0] _ (by rfl) q2.range underlying57 rfl kR) rfl ⟨⟨z.out,rfl⟩,R⟩
theorem zDx (nm:List ByteArray) (x:Wpl.Cl) (u:List UInt8) (t:ByteArray) (ht:t=⟨(61::u).toArray⟩) (h:t.size<=1024) (hf:fgn t.data.toList 0 = -1) (row:List Wt.Nd) (hp:V5 u=.inl row) (E:Int) (C:List I) (aa:zQR nm x row E C) (X:E=0):VQ nm x t (.inl C):=by
 intro bb mb na nk ai w hE hd hr hk;have b:=QJ (QJ (cZ _ w) (Z #[O J x.s,O J x.r,O J x.c] 36)) (Z #[V ⟨#[]⟩,U none 0 0] 57);have q:=AtL.new1 w (Z #[O J x.s,O J x.r,O J x.c] 36) 57 [V ⟨#[]⟩,U none 0 0];have hi:¬ (1024:Int)<(t.size:Int):=oM;have FG:=λW=>zAL t W h
 have ag:u.length<=1024:=by
  have:t.size=u.length+1:=by rw [ht];rfl
  omega
 have CP:=λW=>zCm u W oM
 rw [<-ht] at CP;have Q:hH (∀ W,BEnv W->cW prog 53 #[V ⟨u.toArray⟩] W λe w'=>(∃ v,e=rX (uX #[v,O J 0,O J 0])/\OwnN w' W.heap.size v row)/\bL W w'):=λW hW=>by
  have:=zBs ⟨u.toArray⟩ W hW.1 (by show u.length<=_;omega) hW.2.2;rw [hp] at this;exact this
 have HE:=hid hE;have HR:=hid hr;have HK:=hid hk;have M:=hid aa;have n:=AtL.f3 ((AtL.new0 w 36 [O J x.s,O J x.r,O J x.c]).alloc (Z #[V ⟨#[]⟩,U none 0 0] 57));obtain ⟨j,_,_,_⟩:=(AtL.below b hd).three;rw [hf] at FG;have ae:=hid X;clear hE hd hr hk h hf hp ht ag aa X;go_enter func37,ntmps37;go_upto_region 1 with fail
 generalize (w.alloc (Z #[O J x.s,O J x.r,O J x.c] 36)).alloc (Z #[V ⟨#[]⟩,U none 0 0] 57)=W0 at *;go_wp2_with fail
 refine (FG _).mono ?_;rintro e w1 ⟨rfl,o⟩;replace q:=AtL.below o q
 replace b:=QA b o
 replace n:=QH o n
 replace j:=QC o j
 have A:=hid (HE.out.below b);have R:=hid (RdS.below HR.out b);clear FG o HE HR;go_wp2_with fail
 refine (CP _).mono ?_;rintro e w2 ⟨rfl,rfl⟩;clear CP;go_wp2_with fail
 refine (Q.out _ A.out).mono ?_;rintro e w3 ⟨⟨v,rfl,hv⟩,i⟩;replace q:=AtL.below i q
 replace b:=QA b i
 replace n:=QH i n
 replace j:=QC i j
 have D:=hid (A.out.below i);have T:=hid (RdS.below R.out i);clear i Q A R;go_upto_region 12 with fail
 have d:=(cZ w3.heap.size w3).drew;refine wp_region_held_drew (S:=λW=>W.cell? ⟨bb,0,none⟩=some (U na nm.length nk)/\JI W w.heap.size (O J x.s) (O J x.r) (O J x.c)) kR ⟨QC d j,QH d n⟩ (λf=>?_);replace n:=QH d n
 replace j:=QC d j
 replace q:=AtL.below d q
 replace b:=QA b d
 have FL:=M.out w3.drew _ v na nk (D.out.2.1.below d) (D.out.1.1.below d) (hv.below d) (T.out.below d) HK.out;have HS:=hid (And.intro b.size q.lt);clear d D T hv M;generalize w3.drew=W4 at *;refine tkQ 0 ?_
 refine tkQ 1 ?_
 refine tkQ 2 ?_
 refine tkQ 3 ?_
 refine tkQ 4 ?_
 refine tkQ 5 ?_
 refine rdQ 6 (λK z=>?_);go_simp
 refine FL.mono ?_;rintro e w5 ⟨⟨e0,_⟩ | ⟨_,lv,P,rfl,ho,ac,ab,_⟩,y⟩
 case inl=>exact absurd ae.out e0
 obtain ⟨F,L,H,rfl⟩:∃ a m c,lv=U a m c:=by
  rcases ho.2 with ⟨e,_⟩ | ⟨g,c,ah,e,_⟩
  ·exact ⟨_,_,_,e⟩
  ·exact ⟨_,_,_,e⟩
 have ad:hH (CdP w5 W4.heap.size (U F L H) C):=⟨P,ho,ac,ab⟩
 clear ho ac ab;replace n:=QH y n
 replace j:=QC y j
 replace q:=AtL.below y q
 replace b:=QA b y
 clear y FL;go_wp2_with fail
 refine hkQ z ⟨j,n⟩ (λf=>?_);clear z K
 refine tkQ 7 ?_
 refine tkQ 8 ?_
 refine tkQ 9 ?_
 refine rdQ 10 (λK z=>?_);go_simp
 refine hkQ z ⟨j,n⟩ (λf=>?_);clear z K
 refine rdQ 11 (λK z=>?_);go_simp
 refine hkQ z ⟨j,n⟩ (λf=>?_);clear z K
 refine wpAnyH_done kR ?_ _;clear f j n;go_upto_region 15 with fail
 have q2:=(q.set 0 (V t)).set 1 (U F L H);have af:=(b.setCell (p:=⟨w.heap.size+1,0,none⟩) (iZ _) (V t)).setCell (p:=⟨w.heap.size+1,1,none⟩) (iZ _) (U F L H);obtain ⟨_,_,z0,z1⟩:=q.two;obtain ⟨_,_,y0,y1⟩:=(q.set 0 (V t)).two;go_wp2;refine bodyPost_ret (zAB (by rfl) _ _ (w.heap.size+1) [V t,U F L H] _ (by rfl) q2.range underlying57 rfl kR) rfl ⟨⟨⟨t,F,L,H⟩,rfl,((ad.out.fr (Qj (w.heap.size+1) [V t,U F L H] 0 w5) (λk hk=>by simp at hk;rw [hk];exact HS.out.2)).mono HS.out.1),rfl⟩,af⟩
end Go.Proofs.YtloponhikiddmaaGreatDoor
namespace Go.Proofs.YtloponhikiddmaaGreatDoor.Wf
open Go.Proofs.YtloponhikiddmaaGreatDoor
def TI (B:Nat) (p:I):Prop:=p.2.length<=B/\Wt.FitV p.1.v
def TB (B:Nat) (l:List I):Prop:=∀ p ∈ l,TI B p
theorem zfl {B:Nat} {p:I} (a:p.1.v=v0I) (h:p.2.length<=B):TI B p:=⟨h,by rw [a];exact ⟨dM,dM,dM⟩⟩
theorem zf {B:Nat} {p:I} (a:p.1.v=v0I) (h:p.2=[]):TI B p:=zfl a (by rw [h];exact hZ _)
theorem TB.nil (B:Nat):TB B []:=λp a=>by cases a
theorem TB.cons {B:Nat} {x:I} {l:List I} (a:TI B x) (h:TB B l):TB B (x::l):=λp hp=>by
 rcases List.mem_cons.1 hp with rfl | hp
 ·exact a
 ·exact h p hp
theorem TB.app {B:Nat} {l m:List I} (h:TB B l) (a:TB B m):TB B (l++m):=λp hp=>by
 rcases List.mem_append.1 hp with hp | hp
 ·exact h p hp
 ·exact a p hp
theorem TB.one {B:Nat} {x:I} (a:TI B x):TB B [x]:=TB.cons a (TB.nil B)
section
variable {α:Type}
theorem TB.seq {B:Nat} {g:α->Nat->List I}:∀ {l:List α},(∀ k ∈ l,∀ a,TB B (g k a))->∀ a,TB B (Qb g l a)
 | [],_,_=>TB.nil B
 | k::_,h,a=>TB.app (h k (gZ ..) a) (TB.seq (λx b=>h x (eZ _ b)) _)
theorem TB.chB {B:Nat} {g:α->Nat->List I} {e:Int}:∀ {l:List α},(∀ k ∈ l,∀ a,TB B (g k a))->∀ a,TB B (Wf.chB g e l a)
 | [],_,_=>TB.nil B
 | k::_,h,a=>TB.cons (zf rfl rfl) (TB.app (h k (gZ ..) (a+1)) (TB.chB (λx b=>h x (eZ _ b)) _))
theorem zHl (g:α->Nat->List I):∀ (l:List α) (a:Nat),(chT g l a).length=l.length
 | [],_=>rfl
 | _::l,_=>by simp only [chT,bZ,zHl g l]
theorem TB.choo {B:Nat} {g:α->Nat->List I} {l:List α} (h:∀ k ∈ l,∀ a,TB B (g k a)) (b:l.length<=B) (a:Nat):TB B (Ju g l a):=by
 cases l with
 | nil=>exact TB.one (zf rfl rfl)
 | cons k r =>
  refine TB.cons (zfl rfl ?_) (TB.app (h k (gZ ..) _) (TB.chB (λx d=>h x (eZ _ d)) _));simp only [bZ,zHl] at *;exact b
theorem TB.bran {B:Nat} {g:α->Nat->List I} {u:α} {b:List α} (d:∀ a,TB B (g u a)) (h:∀ k ∈ b,∀ a,TB B (g k a)) (a:Nat):TB B (VC g u b a):=by
 unfold VC;refine TB.cons (zf rfl rfl) (TB.app (d _) (TB.cons (zf rfl rfl) ?_));split
 ·exact TB.one ⟨hZ _,dM,dM,hZ _⟩
 ·exact TB.seq h _
theorem TB.lazy {B:Nat} {g:α->Nat->List I} {id:Int} {ks:List α} (h:∀ k ∈ ks,∀ a,TB B (g k a)) (e:ks.length<=B) (a:Nat):TB B (Jx g id ks a):=by
 cases ks with
 | nil=>exact TB.nil B
 | cons c r =>
  refine TB.app (h c (gZ ..) _) ?_;cases r with
  | nil =>
   simp only;split
   ·exact TB.one (zf rfl rfl)
   ·exact TB.nil B
  | cons u f =>
   have d:=h u (eZ _ (gZ ..));simp only;split
   ·exact TB.bran d (λk b=>h k (eZ _ (eZ _ b))) _
   ·split
    ·exact TB.cons (zf rfl rfl) (d _)
    ·exact TB.choo (λk b=>h k (eZ _ b)) (by simp only [bZ] at e ⊢;omega) _
end
theorem zFd {α:Type} {r:α->Nat}:∀ {l:List α} {k:α},k ∈ l->r k<=VF r l
 | [],k,h=>by cases h
 | x::l,k,h=>by
  simp only [VF,uZ,cY];rcases List.mem_cons.1 h with rfl | h
  ·omega
  ·have:=zFd (r:=r) h;simp only [VF] at this;omega
theorem zF4 {α:Type} {r:α->Nat}:∀ {l:List α},(∀ k ∈ l,1<=r k)->l.length<=VF r l
 | [],_=>hZ _
 | x::l,h=>by
  have b:=h x (gZ ..);have:=zF4 (r:=r) (l:=l) (λk a=>h k (eZ _ a));simp only [VF,uZ,cY,bZ] at *;omega
def NA (y:Wt.Nd):Prop:=(0<=y.a.r/\y.a.r<65536)/\(0<=y.a.c/\y.a.c<65536)/\(0<=y.b.r/\y.b.r<65536)/\0<=y.b.c/\y.b.c<65536
theorem zRP {y:Wt.Nd} (h:Wt.right y=true) (b:isA y=true):NA y:=by
 have a:y.k=3:=by simpa [isA] using b
 unfold Wt.right at h;rw [if_neg oM,if_neg oM,if_pos a] at h;simp only [Wt.rfOk,Wt.inR,Bool.and_eq_true,decide_eq_true_eq] at h;unfold NA;omega
theorem zQs {d:Wt.Nd} (a:NA d):∀ {l:List Wt.Nd},(∀ y ∈ l,NA y)->NA (l.headD d)
 | [],_=>a
 | y::_,h=>h y (gZ ..)
theorem zPQ (own:Int) (nm:List ByteArray) {y:Wt.Nd} (h:NA y):Wt.FitV (VJ ((Qh own nm y).b - (Qh own nm y).t+1))/\Wt.FitV (VJ ((Qh own nm y).r - (Qh own nm y).l+1)):=by
 unfold NA at h;refine ⟨⟨?_,by simp [VJ],hZ _⟩,⟨?_,by simp [VJ],hZ _⟩⟩ <;> simp only [VJ,Qh,Jd] <;> omega
theorem zO7:∀ (n:Nat) (t:Tr n),Jw n t->Wt.right (hd n t)=true
 | 0,t,_=>Empty.elim t
 | _+1,_,h=>h.1
theorem zMW (own:Int) (nm:List ByteArray):∀ (n:Nat) (t:Tr n) (a B:Nat),(row n t).length<=B->Jw n t->(∀ x ∈ row n t,Wt.FitV x.v)->TB B (cod own nm n t a)
 | 0,t,_,_,_,_,_=>Empty.elim t
 | n+1,t,a,B,hB,hT,hF=>by
  obtain ⟨x,ks⟩:Br (Tr n):=t;have s:=zMW own nm n;have g:Wt.FitV x.v:=hF x (gZ ..);have q:∀ y ∈ J4 (ks.map (hd n)),NA y:=λy hy=>by
   obtain ⟨j,m⟩:=List.mem_filter.1 hy;obtain ⟨k,b,rfl⟩:=List.mem_map.1 j;exact zRP (zO7 n k (hT.2.2 k b)) m
  have f:=zPQ own nm (zQs (d:=⟨0,v0I,0,⟨#[]⟩,0,Wt.r0,Wt.r0⟩) (by unfold NA;decide) q);rw [zEH] at hB;have b:∀ k ∈ ks,∀ a,TB B (cod own nm n k a):=λk b a=>s k a B (by have:=zFd (r:=λk=>(row n k).length) b;omega) (hT.2.2 k b) (λx g=>hF x (eZ _ (List.mem_flatten.2 ⟨row n k,List.mem_map.2 ⟨k,b,rfl⟩,g⟩)))
  have o:ks.length<=B:=by have:=zF4 (r:=λk=>(row n k).length) (l:=ks) (λk _=>zEX n k);omega
  show TB B (JV own nm (hd n) (cod own nm n) x ks a)
  unfold JV;split
  ·exact TB.one ⟨hZ _,g⟩
  split
  ·exact TB.one (zf rfl rfl)
  split
  ·exact TB.app (TB.seq b _) (TB.one (zf rfl rfl))
  split
  ·exact TB.app (TB.seq b _) (TB.one (zf rfl rfl))
  split
  ·unfold VH;simp only;split
   ·exact TB.app (TB.seq b _) (TB.one (zf rfl rfl))
   split
   ·refine TB.cons (zf rfl rfl) (TB.app (TB.seq (λk e a=>?_) _) (TB.one (zf rfl rfl)));unfold Jz;split
    ·exact TB.one (zf rfl rfl)
    ·exact TB.app (b k e a) (TB.one (zf rfl rfl))
   split
   ·unfold VI;simp only;have i:∀ k ∈ ks.filter (λk=>!isA (hd n k)),∀ a,TB B (cod own nm n k a):=λk e a=>b k (List.mem_filter.1 e).1 a
    split
    ·exact TB.one ⟨hZ _,f.1⟩
    split
    ·exact TB.one ⟨hZ _,f.2⟩
    split
    ·exact TB.app (TB.seq i _) (TB.one (zf rfl rfl))
    ·refine TB.cons (zf rfl rfl) (TB.app (TB.seq (λk e a=>TB.app (i k e a) (TB.one (zf rfl rfl))) _) (TB.cons ?_ (TB.one (zf rfl rfl))));split <;> exact zf rfl rfl
   ·exact TB.lazy b o _
  ·exact TB.nil B
end Go.Proofs.YtloponhikiddmaaGreatDoor.Wf
namespace Go.Proofs.YtloponhikiddmaaGreatDoor
open Tryz
open Go.RowKit Wf
variable {w w':wW} {lo:Nat} {G:List (Wpl.Cl × Ce)}
theorem zJL {B:Nat} {v:vW} {row:List Wt.Nd} (h:OwnN w B v row) (i:0<row.length):∃ g cap,v=U (some ⟨g,0,none⟩) row.length cap/\RdN w (some ⟨g,0,none⟩) row/\row.length<=cap:=by
 obtain ⟨av,cap,e,f⟩:=h.form;subst e;rcases h.2 with ⟨e,m⟩ | ⟨g,a,b,e,k,j,d,_⟩
 ·omega
 ·simp only [U.injEq] at e;obtain ⟨rfl,_,rfl⟩:=e;exact ⟨g,cap,rfl,f,d⟩
theorem zNF (nm:List ByteArray) (x:Wpl.Cl) (row:List Wt.Nd) (u:nm.length<=1000000) (D:-9223372036854775808<=x.s/\x.s<=9223372036854775807) (f:∀ n ∈ row,Wt.FitN n) (j:Wt.check row=0):∃ E C,zQR nm x row E C/\0<C.length/\C.length<=20000/\∀ p ∈ C,TI 1000000 p:=by
 obtain ⟨t,a,i,b⟩:=zGf j;refine ⟨flE x.s x.r x.c nm _ t,flC x.s nm _ t,λw B v H I m o A z q=>?_,by simp [flC],?_,λp hp=>?_⟩;rotate_left
 ·have:=zIQ x.s (nm.take 16) _ t 0;rw [a] at this;simp only [flC,vZ,bZ,zZ];omega
 ·rcases List.mem_append.1 hp with hp | hp
  ·have:=zMW x.s (nm.take 16) _ t 0 256 (by rw [a];exact b) i (λy F=>(f y (by rw [<-a];exact F)).1) p hp;exact ⟨fZ this.1 dM,this.2⟩
  ·simp only [bY,yZ,or_false] at hp;rw [hp];exact zf rfl rfl
 have k:0<row.length:=by rw [<-a];exact zEX _ t
 obtain ⟨g,cap,rfl,e,d⟩:=zJL A k;exact zFR _ t g 0 cap row x.s x.r x.c H nm nm.length I w f o m e z j a i b d row.length rfl rfl q u D
theorem zMP:∀ (l:List UInt8) (i:Nat),fgn l i = -1 \/ ∃ n:Nat,fgn l i=(n:Int)
 | [],i=>dY rfl
 | b::r,i=>by
  unfold fgn;split
  ·exact sZ ⟨i,rfl⟩
  ·exact zMP r (i+1)
theorem zBo (l:List UInt8):Wlx.begins [61] l=true ↔ l.head? = some 61:=by
 cases l with
 | nil=>simp [Wlx.begins]
 | cons a r =>
  simp [Wlx.begins];exact eq_comm
def zOc (p:Int):Prop:=0<=p \/ ∃ u c q,V5 u=.inr (c,q)/\u.length<=1023/\p=wrap64 (q+1)
theorem zQm (nm:List ByteArray) (x:Wpl.Cl) (t:ByteArray) (D:nm.length<=1000000) (I:-9223372036854775808<=x.s/\x.s<=9223372036854775807) (F:t.size<=9223372036854775807):∃ R,VQ nm x t R/\(∀ C,R=.inl C->(0<C.length ↔ Wlx.begins [61] t.data.toList=true)/\C.length<=20000/\∀ p ∈ C,TI 1000000 p)/\∀ q,R=.inr q->q.1 ≠ 0/\zOc q.2:=by
 by_cases h:1024<t.size
 ·exact ⟨_,zJ6 nm x t h F,(λC e=>by cases e),λq e=>by cases e;exact ⟨dM,dY dM⟩⟩
 ·have h:t.size<=1024:=oM;rcases zMP t.data.toList 0 with f | ⟨n,f⟩
  ·by_cases b:t.data.toList.head? = some 61
   ·obtain ⟨u,H⟩:∃ u,t.data.toList=61::u:=by
     cases o:t.data.toList with
     | nil=>rw [o] at b;cases b
     | cons a r=>rw [o] at b;simp at b;exact ⟨r,by rw [b]⟩
    have i:t=⟨(61::u).toArray⟩:=by
     apply ByteArray.ext
     apply Array.ext'
     rw [H]
    cases d:V5 u with
    | inr q =>
     obtain ⟨c,p⟩:=q;exact ⟨_,zKU nm x u t i h f c p d,(λC e=>by cases e),λq e=>by
      cases e
      have L:t.size=u.length+1:=by rw [i];rfl
      exact ⟨zDE d,sZ ⟨u,c,p,d,oM,rfl⟩⟩⟩
    | inl row =>
     obtain ⟨z,A⟩:=zKz d;obtain ⟨E,C,g,y,j,k⟩:=zNF nm x row D I z A;by_cases m:E=0
     ·refine ⟨_,zDx nm x u t i h f row d E C g m,λK e=>?_,λq e=>by cases e⟩;simp only [Sum.inl.injEq] at e;rw [<-e];exact ⟨⟨λ_=>(zBo _).2 b,λ_=>y⟩,j,k⟩
     ·exact ⟨_,zH1 nm x u t i h f row d E C g m,(λC e=>by cases e),λq e=>by cases e;exact ⟨m,dY (Int.le_refl _)⟩⟩
   ·refine ⟨_,zFr nm x t h f b,λC e=>?_,λq e=>by cases e⟩;simp only [Sum.inl.injEq] at e;rw [<-e,zBo];exact ⟨by simp [b],hZ _,λp d=>by cases d⟩
  ·exact ⟨_,zKh nm x t h n f,(λC e=>by cases e),λq e=>by cases e;exact ⟨by show (111:Int) ≠ 0;decide,dY (by show (0:Int)<=(n:Int);omega)⟩⟩
open Go.RowKit
def Vm (x:Wpl.Cl) (f:Ct) (F:List (Wpl.Cl × Ct)):List (Wpl.Cl × Ct):=if f.t=⟨#[]⟩ then V4 x F else VU x f F
theorem knd_mt {t:ByteArray}:knd t=0 ↔ t=⟨#[]⟩:=by
 unfold knd;by_cases h:t=⟨#[]⟩
 ·rw [if_pos h];simp [h]
 ·rw [if_neg h];refine ⟨λe=>?_,λe=>absurd e h⟩;split at e <;> cases e
theorem zKf (R m:Nat) (nv:vW) (ad:Int) (F:List (Wpl.Cl × Ct)) (x:Wpl.Cl) (f:Ct) (w:wW) (h:AtL w R [nv,O J ad,.map (some m)]) (hm:MB w m F) (aa:R ≠ m) (hs:f.t.size<=9223372036854775807) :
  cW prog 21 #[pX (some ⟨R,0,none⟩),gX #[O J x.s,O J x.r,O J x.c],ctV f] w λe w'=>e=rX (uX #[])/\MB w' m (Vm x f F)/\Fr [m] w w':=by
 have KA:=λW=>zFp f W hs
 have Q:=QJ (QJ (cZ _ w) (Z #[O J x.s,O J x.r,O J x.c] 36)) (Z #[V f.t,.slice f.a f.n f.k] 57);have p:=AtL.f3 ((AtL.new0 w 36 [O J x.s,O J x.r,O J x.c]).alloc (Z #[V f.t,.slice f.a f.n f.k] 57));have q:=AtL.new1 w (Z #[O J x.s,O J x.r,O J x.c] 36) 57 [V f.t,.slice f.a f.n f.k];have P:=hid (hm.below Q);have ac:=hm.lt;have ab:R<w.heap.size:=(AtL.lt h)
 have i:hH (R ∉ [m]/\w.heap.size ∉ [m]/\w.heap.size+1 ∉ [m]):=⟨by simpa using aa,by simp;omega,by simp;omega⟩
 obtain ⟨_,_,u,_⟩:=(AtL.below Q h).three;have L:=hid Q;clear h hm Q aa hs ac ab;obtain ⟨y,z,_,_⟩:=q.two;clear q;go_enter func21,ntmps21;go_upto_region 1 with fail
 generalize (w.alloc (Z #[O J x.s,O J x.r,O J x.c] 36)).alloc (Z #[V f.t,.slice f.a f.n f.k] 57)=W0 at *;have o:JI W0 w.heap.size (O J x.s) (O J x.r) (O J x.c):=p;clear p;by_cases h0:f.t=⟨#[]⟩
 ·have HL:hH (Vm x f F=V4 x F):=by show _=_;unfold Vm;rw [if_pos h0]
  rw [knd_mt.2 h0] at KA;clear h0;go_wp2_with fail
  refine (KA _).mono ?_;rintro e w2 ⟨rfl,g⟩;have D:=hid (P.out.below g);have A:=hid (QA L.out g);replace o:=QH g o
  replace u:=QC g u
  replace y:=QC g y
  replace z:=QC g z
  clear g L KA P;go_upto_region 2 with fail
  have b:=(cZ w2.heap.size w2).drew;refine wp_region_held_drew (S:=λW=>W.cell? ⟨R,2,none⟩=some (.map (some m))/\JI W w.heap.size (O J x.s) (O J x.r) (O J x.c)/\(W.cell? ⟨w.heap.size+1,0,none⟩=some (V f.t)/\W.cell? ⟨w.heap.size+1,1,none⟩=some (.slice f.a f.n f.k))) kR ⟨QC b u,QH b o,QC b y,QC b z⟩ (λj=>?_);have E:=hid (MB.below D.out b);have C:=hid (QA A.out b);replace o:=QH b o
  replace u:=QC b u
  replace y:=QC b y
  replace z:=QC b z
  clear b D A;generalize w2.drew=W3 at *;refine tkQ 0 ?_
  refine tkQ 1 ?_
  refine tkQ 2 ?_
  refine tkQ 3 ?_
  refine tkQ 4 ?_
  refine rdQ 5 (λK hK=>?_);obtain ⟨w4,X,I,H⟩:=zQ7 E.out x 0;go_simp
  have d:hH (Fr [m] W3 w4):=Fr.of_grown H (λk e=>by cases e;simp);refine hkQ hK ⟨d.out.cell u i.out.1,⟨d.out.cell o.1 i.out.2.1,d.out.cell o.2.1 i.out.2.1,d.out.cell o.2.2 i.out.2.1⟩,d.out.cell y i.out.2.2,d.out.cell z i.out.2.2⟩ (λj=>?_);clear hK K
  refine wpAnyH_done kR ?_ _;have M:hH (MB w4 m (Vm x f F)/\Fr [m] w w4):=⟨by rw [HL.out];exact I,(Fr.of_below [m] C.out).trans d.out⟩
  clear j H X I d C E u o y z;go_wp2;first | (go_end0;exact ⟨rfl,M.out.1,M.out.2⟩) | exact bodyPost_ret (results_none rfl _ _ _) rfl ⟨rfl,M.out.1,M.out.2⟩
 ·have HL:hH (Vm x f F=VU x f F):=by show _=_;unfold Vm;rw [if_neg h0]
  obtain ⟨kd,T⟩:=xV (knd f.t)
  have ae:¬ kd=0:=λe=>h0 (knd_mt.1 (by rw [T,e]))
  rw [T] at KA;clear h0 T;go_wp2_with fail
  refine (KA _).mono ?_;rintro e w2 ⟨rfl,g⟩;have D:=hid (P.out.below g);have A:=hid (QA L.out g);replace o:=QH g o
  replace u:=QC g u
  replace y:=QC g y
  replace z:=QC g z
  clear g L KA P;go_upto_region 3 with fail
  have b:=(cZ w2.heap.size w2).drew;refine wp_region_held_drew (S:=λW=>W.cell? ⟨R,2,none⟩=some (.map (some m))/\JI W w.heap.size (O J x.s) (O J x.r) (O J x.c)/\(W.cell? ⟨w.heap.size+1,0,none⟩=some (V f.t)/\W.cell? ⟨w.heap.size+1,1,none⟩=some (.slice f.a f.n f.k))) kR ⟨QC b u,QH b o,QC b y,QC b z⟩ (λj=>?_);have E:=hid (MB.below D.out b);have C:=hid (QA A.out b);replace o:=QH b o
  replace u:=QC b u
  replace y:=QC b y
  replace z:=QC b z
  clear b D A;generalize w2.drew=W3 at *;refine tkQ 0 ?_
  refine tkQ 1 ?_
  refine tkQ 2 ?_
  refine tkQ 3 ?_
  refine tkQ 4 ?_
  refine tkQ 5 ?_
  refine rdQ 6 (λK hK=>?_);obtain ⟨w4,X,I,H⟩:=zR3 E.out x f;go_simp
  have d:hH (Fr [m] W3 w4):=Fr.of_grown H (λk e=>by cases e;simp);refine hkQ hK ⟨d.out.cell u i.out.1,⟨d.out.cell o.1 i.out.2.1,d.out.cell o.2.1 i.out.2.1,d.out.cell o.2.2 i.out.2.1⟩,d.out.cell y i.out.2.2,d.out.cell z i.out.2.2⟩ (λj=>?_);clear hK K
  refine wpAnyH_done kR ?_ _;have M:hH (MB w4 m (Vm x f F)/\Fr [m] w w4):=⟨by rw [HL.out];exact I,(Fr.of_below [m] C.out).trans d.out⟩
  clear j H X I d C E u o y z;go_wp2;first | (go_end0;exact ⟨rfl,M.out.1,M.out.2⟩) | exact bodyPost_ret (results_none rfl _ _ _) rfl ⟨rfl,M.out.1,M.out.2⟩
theorem zMi (w:wW):(Instr.makeMap 50 none).run prog w=.ok (.map (some w.heap.size)) (w.alloc (.map #[] 0)):=kR
theorem zMj (w:wW):MB (w.alloc (.map #[] 0)) w.heap.size []:=⟨#[],0,(Go.MapKept.heap_alloc w _).1,rfl,⟨λx a=>(by cases a),sM⟩⟩
theorem zCe {S:List Nat} {k:Nat} {d:List vW} (h:AtL w k d) (a:Fr S w w') (b:k ∉ S):AtL w' k d :=
 ⟨Nat.lt_of_lt_of_le h.1 a.size,λj v e=>a.cell (h.2.1 j v e) b,λj hj=>by rw [a.frozen h.1 b];exact h.2.2 j hj⟩
def raP (n:Nat) (rs:Ch->List I ⊕ (Int × Int)):List Ch->Nat->List (Wpl.Cl × Ce)->(Int × Int × Int) ⊕ List (Wpl.Cl × Ce)
 | [],_,N=>.inr N
 | a::r,i,N=>if Jh n a.x=false then .inl (110,(i:Int),0) else if (fnB a.x N 0).isSome=true then .inl (112,(i:Int),0) else
  match rs a with
  | .inr q=>.inl (q.1,(i:Int),q.2)
  | .inl C=>raP n rs r (i+1) (VU a.x ⟨a.t,C⟩ N)
def RaQ (R:(Int × Int × Int) ⊕ List (Wpl.Cl × Ce)) (w:wW) (e:Ending) (w':wW):Prop :=
 (
   match R with
   | .inl q=>q.1 ≠ 0/\e=rX (uX #[.map none,gX #[O J q.1,O J q.2.1,O J q.2.2]])
   | .inr N=>e=rX (uX #[.map (some (w.heap.size+1)),gX #[O J 0,O J 0,O J 0]])/\∃ F,MB w' (w.heap.size+1) F/\Mt w' (w.heap.size+2) F N)/\bL w w'/\w.heap.size+2<=w'.heap.size
theorem zAD {P:Program} {f:Func} {t s:Tmp} {T:TypeId} (h:f.results=#[.tmp s,.cell t T]) (a:Array vW) (w:wW) (b:Nat) (cs:List vW) (d:TypeDesc) (k:a.getD t undef=pX (some ⟨b,0,none⟩)) (g:w.rangeAt b 0 cs)
  (m:P.underlying T=some d) (hd:d.isRow=true) (i:(P.info? T).map (·.size)=some cs.length):(results f a).run P w=.ok (uX #[a.getD s undef,gX cs.toArray]) w:=by
 have j:=run_loadVar_mid (P:=P) w b 0 T cs d g m hd i;have e:a[t]?.getD undef=pX (some ⟨b,0,none⟩):=by rw [<-k];simp
 simp only [results,h];simp [e,j,asAddr]
theorem zCV (bb mb:Nat) (na:Option Addr) (nk:Nat) (nm:List ByteArray) (ak:Int) (av:Option Addr) (n cap:Nat) (L:List Ch) (rs:Ch->List I ⊕ (Int × Int)) (w:wW) (hE:BEnv w) (h:AtL w bb [U na nm.length nk,O J ak,.map (some mb)]) (hS:RdS w na nm) (hk:nm.length<=nk) (hr:RdH w av L) (hn:L.length=n) (hN:True->n<=256)
  (hR:∀ a ∈ L,Jh nm.length a.x=true->VQ nm a.x a.t (rs a)) :
  cW prog 19 #[pX (some ⟨bb,0,none⟩),U av n cap] w (RaQ (raP nm.length rs L 0 []) w):=by
 obtain ⟨R,af⟩:=xV (raP nm.length rs L 0 [])
 rw [af];have ar:=hid af;have S:=hid (And.intro hE (And.intro h (And.intro hS (And.intro hk (And.intro hr (And.intro hn hR))))));have mm:=zMi (w.alloc (Z #[O J 0,O J 0,O J 0] 30));have au:=QJ (QJ (cZ _ w) (Z #[O J 0,O J 0,O J 0] 30)) (.map #[] 0);have p0:=(AtL.new0 w 30 [O J 0,O J 0,O J 0]).alloc (.map #[] 0);have m0:=zMj (w.alloc (Z #[O J 0,O J 0,O J 0] 30));rw [nZ] at m0;have al:hH (bL w ((w.alloc (Z #[O J 0,O J 0,O J 0] 30)).alloc (.map #[] 0))/\w.heap.size+2<=((w.alloc (Z #[O J 0,O J 0,O J 0] 30)).alloc (.map #[] 0)).heap.size):=⟨au,sM⟩
 have an:hH (∃ F,MB ((w.alloc (Z #[O J 0,O J 0,O J 0] 30)).alloc (.map #[] 0)) (w.heap.size+1) F/\Mt ((w.alloc (Z #[O J 0,O J 0,O J 0] 30)).alloc (.map #[] 0)) (w.heap.size+2) F []):=⟨[],m0,trivial⟩
 have ap:=hid p0;clear hE h hS hk hr hn hR au p0 m0 af;go_enter func19,ntmps19;go_upto_region 3 with fail
 clear mm;generalize (w.alloc (Z #[O J 0,O J 0,O J 0] 30)).alloc (.map #[] 0)=W0 at *;go_loopg [17] n (λgk x wr=>∃ (i:Nat) (N:List (Wpl.Cl × Ce)),x=O J (i:Int)/\gk=n - i/\hH (i<=n)/\hH (raP nm.length rs (L.drop i) i N=R)/\hH (∃ F,MB wr (w.heap.size+1) F/\Mt wr (w.heap.size+2) F N)/\hH (AtL wr w.heap.size [O J 0,O J 0,O J 0])/\hH (bL w wr/\w.heap.size+2<=wr.heap.size))
 case atStart=>exact ⟨0,[],rfl,rfl,hZ _,ar,an,ap,al⟩
 case round =>
  obtain ⟨i,N,rfl,hg,HI,HR,HM,HP,HB⟩:=hrel;generalize aN:wr=W at *;clear aN ar an ap al;by_cases ah:i<n
  ·have aL:(i:Int)<(n:Int):=oM;have aQ:(0:Int)<=(i:Int):=oM;have aS:J.wrap ((i:Int)+1)=(i:Int)+1:=by have:=hN trivial;rw [IntKind.wrap_i64];omega
   obtain ⟨a,ha⟩:∃ a,L[i]? = some a:=⟨L[i]'(by rw [S.out.2.2.2.2.2.1];exact ah),oZ _⟩
   have z:=hid (List.mem_of_getElem? ha);have HD:hH (raP nm.length rs (a::L.drop (i+1)) i N=R):=by
    show _=_
    have hl':i<L.length:=by rw [S.out.2.2.2.2.2.1];exact ah
    have e1:L[i]'hl'=a:=by
     have:=oZ (l:=L) (i:=i) hl';rw [ha] at this;exact (Option.some.inj this).symm
    have:=HR.out;rwa [List.drop_eq_getElem_cons hl',e1] at this
   obtain ⟨cb,ad,e,A⟩:=S.out.2.2.2.2.1.below HB.out.1 i a ha;subst e;have k0:W.cell? ⟨cb,ad+i * 4,none⟩=some (O J a.x.s):=A 0 _ rfl;have k1:W.cell? ⟨cb,ad+i * 4+1,none⟩=some (O J a.x.r):=A 1 _ rfl;have k2:W.cell? ⟨cb,ad+i * 4+2,none⟩=some (O J a.x.c):=A 2 _ rfl;have k3:W.cell? ⟨cb,ad+i * 4+3,none⟩=some (V a.t):=A 3 _ rfl;have M:=QJ (cZ _ W) (Z #[O J a.x.s,O J a.x.r,O J a.x.c,V a.t] 38);have q1:=AtL.new0 W 38 [O J a.x.s,O J a.x.r,O J a.x.c,V a.t];have ab:=hid (And.intro (QA HB.out.1 M) (fZ HB.out.2 M.size));have aq:=hid (AtL.below M HP.out);have ao:hH (∃ F,MB (W.alloc (Z #[O J a.x.s,O J a.x.r,O J a.x.c,V a.t] 38)) (w.heap.size+1) F/\Mt (W.alloc (Z #[O J a.x.s,O J a.x.r,O J a.x.c,V a.t] 38)) (w.heap.size+2) F N):=by
    obtain ⟨F,m1,m2⟩:=HM.out;exact ⟨F,m1.below M,m2.fr (Fr.of_below [] M) sM⟩
   have aP:=hid HB.out.2;clear ha A M HR HM HP HB;go_upto_region 5 with fail
   clear k0 k1 k2 k3;generalize W.alloc (Z #[O J a.x.s,O J a.x.r,O J a.x.c,V a.t] 38)=W1 at *;generalize aJ:W.heap.size=eb at *;clear aJ;have HS:=zMC bb mb na nm.length nk ak a.x W1 (AtL.below ab.out.1 S.out.2.1);obtain ⟨q,hq⟩:=xV (Jh nm.length a.x)
   rw [hq] at HS;have HQ:=hid hq;clear hq;have j0:=q1.2.1 0 _ rfl;have j1:=q1.2.1 1 _ rfl;have j2:=q1.2.1 2 _ rfl;have j3:=q1.2.1 3 _ rfl;go_wp2_with fail
   refine HS.mono ?_;rintro e w2 ⟨rfl,o⟩;have Q:=hid (And.intro (QA ab.out.1 o) (fZ ab.out.2 o.size));have ac:=hid (AtL.below o aq.out);obtain ⟨F,aB,aD⟩:=ao.out;have y:=hid (And.intro (aB.below o) (aD.fr (Fr.of_below [] o) sM));replace q1:=AtL.below o q1
   replace j0:=QC o j0
   replace j1:=QC o j1
   replace j2:=QC o j2
   replace j3:=QC o j3
   clear o HS ab aq ao aB aD;cases q with
   | false =>
    have K:R=.inl (110,(i:Int),0):=by
     rw [<-HD.out];unfold raP;rw [if_pos HQ.out]
    have b:=ac;have m:=Q;clear HD y ac Q HQ z;obtain ⟨_,_,_,z0,z1,z2⟩:=b.out.three;obtain ⟨_,_,_,y0,y1,y2⟩:=(b.out.set 0 (O J 110)).three;obtain ⟨_,_,_,x0,x1,x2⟩:=((b.out.set 0 (O J 110)).set 1 (O J (i:Int))).three;have q2:=((b.out.set 0 (O J 110)).set 1 (O J (i:Int))).set 2 (O J 0);go_wp2;refine bodyPost_ret (zAD (by rfl) _ _ w.heap.size [O J 110,O J (i:Int),O J 0] _ (by rfl) q2.range underlying30 rfl kR) rfl ?_;try rw [K]
    exact ⟨⟨by show (110:Int) ≠ 0;decide,rfl⟩,Qm m.out.1 (dZ _) [O J 110,O J (i:Int),O J 0] 0,fZ m.out.2 (Qj w.heap.size [O J 110,O J (i:Int),O J 0] 0 w2).size⟩
   | true =>
    go_upto_region 7 with fail
    have ag:=zQv y.out.1 a.x;obtain ⟨g,aA⟩:=xV (gtC a.x F)
    obtain ⟨tw,aj⟩:=xV (gtH a.x F)
    have E:hH ((fnB a.x N 0).isSome=tw):=by
     show _=_
     rw [<-aj,<-(y.out.2.get a.x).2]
    have aM:(Instr.lookup 50 (.map (some (w.heap.size+1))) (gX #[O J a.x.s,O J a.x.r,O J a.x.c]) true).run prog w2=.ok (uX #[gX #[V g.t,.slice g.a g.n g.k],Y tw]) w2:=by
     rw [aA,aj] at ag;exact ag
    clear aA aj ag;have u:=QJ (cZ _ w2) (Z #[V g.t,.slice g.a g.n g.k] 57);go_upto_region 8 with fail
    have j:=hid (And.intro (QA Q.out.1 u) (fZ Q.out.2 u.size));have D:=hid (AtL.below u ac.out);have T:=hid (And.intro (y.out.1.below u) (y.out.2.fr (Fr.of_below [] u) sM));replace q1:=AtL.below u q1
    replace j0:=QC u j0
    replace j1:=QC u j1
    replace j2:=QC u j2
    replace j3:=QC u j3
    clear aM u Q ac y;generalize w2.alloc (Z #[V g.t,.slice g.a g.n g.k] 57)=W3 at *;cases tw with
    | true =>
     have K:R=.inl (112,(i:Int),0):=by
      rw [<-HD.out];unfold raP;rw [if_neg (by rw [HQ.out];decide),if_pos E.out]
     have b:=D;have m:=j;clear HD T D j HQ z E;obtain ⟨_,_,_,z0,z1,z2⟩:=b.out.three;obtain ⟨_,_,_,y0,y1,y2⟩:=(b.out.set 0 (O J 112)).three;obtain ⟨_,_,_,x0,x1,x2⟩:=((b.out.set 0 (O J 112)).set 1 (O J (i:Int))).three;have q2:=((b.out.set 0 (O J 112)).set 1 (O J (i:Int))).set 2 (O J 0);go_wp2;refine bodyPost_ret (zAD (by rfl) _ _ w.heap.size [O J 112,O J (i:Int),O J 0] _ (by rfl) q2.range underlying30 rfl kR) rfl ?_;try rw [K]
     exact ⟨⟨by show (112:Int) ≠ 0;decide,rfl⟩,Qm m.out.1 (dZ _) [O J 112,O J (i:Int),O J 0] 0,fZ m.out.2 (Qj w.heap.size [O J 112,O J (i:Int),O J 0] 0 W3).size⟩
    | false =>
     have RI:=S.out.2.2.2.2.2.2 a z.out HQ.out bb mb na nk ak W3 (S.out.1.below j.out.1) (AtL.below j.out.1 S.out.2.1) (RdS.below S.out.2.2.1 j.out.1) S.out.2.2.2.1;cases P:rs a with
     | inr H =>
      rw [P] at RI;have K:R=.inl (H.1,(i:Int),H.2):=by
       rw [<-HD.out];unfold raP;rw [if_neg (by rw [HQ.out];decide),if_neg (by rw [E.out];decide),P]
      clear HD HQ z E P T;go_wp2_with fail
      refine RI.mono ?_;rintro e w4 ⟨⟨ai,rfl⟩,aa⟩;have d:=QJ aa (Z #[V ⟨#[]⟩,U none 0 0] 57);have m:=hid (And.intro (QA j.out.1 d) (fZ j.out.2 d.size));have b:=hid (AtL.below d D.out);have aG:=hid ai;have aO:¬ H.1=0:=ai;clear RI j D aa d ai j0 j1 j2 j3 q1;go_upto_region 11 with fail
      generalize w4.alloc (Z #[V ⟨#[]⟩,U none 0 0] 57)=W5 at *;obtain ⟨_,_,_,z0,z1,z2⟩:=b.out.three;obtain ⟨_,_,_,y0,y1,y2⟩:=(b.out.set 0 (O J H.1)).three;obtain ⟨_,_,_,x0,x1,x2⟩:=((b.out.set 0 (O J H.1)).set 1 (O J (i:Int))).three;have q2:=((b.out.set 0 (O J H.1)).set 1 (O J (i:Int))).set 2 (O J H.2);go_wp2;refine bodyPost_ret (zAD (by rfl) _ _ w.heap.size [O J H.1,O J (i:Int),O J H.2] _ (by rfl) q2.range underlying30 rfl kR) rfl ?_;try rw [K]
      exact ⟨⟨aG.out,rfl⟩,Qm m.out.1 (dZ _) [O J H.1,O J (i:Int),O J H.2] 0,fZ m.out.2 (Qj w.heap.size [O J H.1,O J (i:Int),O J H.2] 0 W5).size⟩
     | inl C =>
      rw [P] at RI;have aI:hH (raP nm.length rs (L.drop (i+1)) (i+1) (VU a.x ⟨a.t,C⟩ N)=R):=by
       show _=_
       rw [<-HD.out];conv=>rhs;unfold raP
       rw [if_neg (by rw [HQ.out];decide),if_neg (by rw [E.out];decide),P]
      clear HD HQ z E P;go_wp2_with fail
      refine RI.mono ?_;rintro e w4 ⟨⟨f,ay,ax,rfl⟩,aa⟩;have d:=QJ aa (Z #[V f.t,.slice f.a f.n f.k] 57);have aw:=QJ (cZ _ w4) (Z #[V f.t,.slice f.a f.n f.k] 57);have m:=hid (And.intro (QA j.out.1 d) (fZ j.out.2 d.size));have b:=hid (AtL.below d D.out);have ae:=hid (And.intro (T.out.1.below d) (T.out.2.fr (Fr.of_below [] d) sM));have am:hH (CeP (w4.alloc (Z #[V f.t,.slice f.a f.n f.k] 57)) (w.heap.size+2) f ⟨a.t,C⟩):=⟨ay,(ax.fr (Fr.of_below [] aw) sM).mono j.out.2⟩
      have qf:=AtL.new0 w4 57 [V f.t,.slice f.a f.n f.k];replace q1:=AtL.below d q1
      replace j0:=QC d j0
      replace j1:=QC d j1
      replace j2:=QC d j2
      clear RI j D T aa d aw ay ax j3;go_upto_region 11 with fail
      generalize w4.alloc (Z #[V f.t,.slice f.a f.n f.k] 57)=W5 at *;generalize aK:w4.heap.size=fb at *;clear aK;obtain ⟨f0,f1,_,_⟩:=qf.two;obtain ⟨w6,aR,aC,az⟩:=zR3 ae.out.1 a.x f;have X:Fr [w.heap.size+1] W5 w6:=Fr.of_grown az (λk e=>by cases e;simp);have aE:=hid (And.intro (((Fr.of_below [w.heap.size+1] m.out.1).trans X).to_below (λk hk=>by simp at hk;omega)) (fZ m.out.2 X.size));have aH:=hid (zCe b.out X sM);have aF:hH (∃ F,MB w6 (w.heap.size+1) F/\Mt w6 (w.heap.size+2) F (VU a.x ⟨a.t,C⟩ N)):=⟨_,aC,(ae.out.2.put a.x am.out).fr X (λk hk=>by simp at hk;omega)⟩
      clear m b ae am aC az X;go_wp2_with fail
      go_roundg (n - (i+1))
      case rel=>exact ⟨i+1,_,sM,rfl,ah,aI,aF,aH,aE⟩
      case measure=>omega
  ·have aL:¬ (i:Int)<(n:Int):=oM;have HE:hH (R=.inr N):=by
    show _=_
    have:=S.out.2.2.2.2.2.1;rw [<-HR.out,List.drop_eq_nil_of_le oM];rfl
   have K:R=.inr N:=HE.out;obtain ⟨F,m1,m2⟩:=HM.out;have y:=hid (And.intro m1 m2);clear HR S HM m1 m2 HE;obtain ⟨_,_,_,z0,z1,z2⟩:=HP.out.three;obtain ⟨_,_,_,y0,y1,y2⟩:=(HP.out.set 0 (O J 0)).three;obtain ⟨_,_,_,x0,x1,x2⟩:=((HP.out.set 0 (O J 0)).set 1 (O J 0)).three;have q2:=((HP.out.set 0 (O J 0)).set 1 (O J 0)).set 2 (O J 0);go_wp2;refine bodyPost_ret (zAD (by rfl) _ _ w.heap.size [O J 0,O J 0,O J 0] _ (by rfl) q2.range underlying30 rfl kR) rfl ?_;have fr:=Qj w.heap.size [O J 0,O J 0,O J 0] 0 W;refine ⟨⟨rfl,F,MB.fr y.out.1 fr sM,Mt.fr fr (λk hk=>by simp at hk;omega) y.out.2⟩,?_,?_⟩
   ·exact Qm HB.out.1 (dZ _) [O J 0,O J 0,O J 0] 0
   ·exact fZ HB.out.2 fr.size
def lbE (G:List (Wpl.Cl × Ce)):List Ch->Int->Int
 | [],n=>n
 | a::r,n=>lbE G r ((if knd (gtE a.x G).t ≠ 0 then n - 1 else n)+(if a.t=⟨#[]⟩ then 0 else 1))
theorem zIF {w:wW} {lo:Nat} {F:List (Wpl.Cl × Ct)} {G:List (Wpl.Cl × Ce)} (h:Mt w lo F G):∀ (L:List Ch) (n:Int),lbP F L n=lbE G L n
 | [],n=>rfl
 | a::r,n=>by
  unfold lbP lbE;rw [(h.get a.x).1.1,zIF h r]
def VY (x:Wpl.Cl) (f:Ce) (G:List (Wpl.Cl × Ce)):List (Wpl.Cl × Ce):=if f.t=⟨#[]⟩ then V4 x G else VU x f G
theorem Mt.lay {F:List (Wpl.Cl × Ct)} (h:Mt w lo F G) (x:Wpl.Cl) {f:Ct} {g:Ce} (a:CeP w lo f g):Mt w lo (Vm x f F) (VY x g G):=by
 unfold Vm VY;rw [a.1];split
 ·exact h.del x
 ·exact h.put x a
def VP (N:List (Wpl.Cl × Ce)):List Ch->List (Wpl.Cl × Ce)->List (Wpl.Cl × Ce)
 | [],G=>G
 | a::r,G=>VP N r (VY a.x (gtE a.x N) G)
def edP (n:Nat) (rs:Ch->List I ⊕ (Int × Int)) (a:Int) (G:List (Wpl.Cl × Ce)) (L:List Ch):(Int × Int × Int) × Int × List (Wpl.Cl × Ce) :=
 if L.length=0 then ((114,0,0),a,G) else if 256<L.length then ((3,0,0),a,G) else
 match raP n rs L 0 [] with
 | .inl q=>(q,a,G)
 | .inr N=>if 4096<lbE G L (G.length:Int) then ((113,0,0),a,G) else ((0,0,0),a+1,VP N L G)
def EdQ (a b lo:Nat) (d:Option Addr) (f:Nat) (nm:List ByteArray) (r:(Int × Int × Int) × Int × List (Wpl.Cl × Ce)) (w:wW) (e:Ending) (w':wW):Prop :=
 e=rX (gX #[O J r.1.1,O J r.1.2.1,O J r.1.2.2])/\BK w' a b lo d f nm r.2.1 r.2.2/\Fr [a,b] w w'
theorem EdQ.same {b e:Nat} {f:Option Addr} {g:Nat} {nm:List ByteArray} {a:Int} {c i p:Int} (h:BK w b e lo f g nm a G) (d:bL w w'):EdQ b e lo f g nm ((c,i,p),a,G) w (rX (gX #[O J c,O J i,O J p])) w':=⟨rfl,h.below d,Fr.of_below _ d⟩
theorem zIb (d f lo:Nat) (g:Option Addr) (i:Nat) (nm:List ByteArray) (b:Int) (G:List (Wpl.Cl × Ce)) (av:Option Addr) (n cap:Nat) (w:wW) (h:BK w d f lo g i nm b G) (k:n=0) :
  cW prog 9 #[pX (some ⟨d,0,none⟩),U av n cap] w (EdQ d f lo g i nm ((114,0,0),b,G) w):=by
 subst k;have j:=hid h;have e:=QJ (cZ _ w) (Z #[O J 0,O J 0,O J 0] 30);have p:=AtL.new0 w 30 [O J 0,O J 0,O J 0];clear h;go_enter func9,ntmps9;go_upto_region 2 with fail
 generalize w.alloc (Z #[O J 0,O J 0,O J 0] 30)=o at *;have a:=hid p;clear p;obtain ⟨_,_,_,y,z,A⟩:=a.out.three;obtain ⟨_,_,_,t,u,x⟩:=(a.out.set 0 (O J 114)).three;obtain ⟨_,_,_,q,r,s⟩:=((a.out.set 0 (O J 114)).set 1 (O J 0)).three;have m:=((a.out.set 0 (O J 114)).set 1 (O J 0)).set 2 (O J 0);go_wp2;refine bodyPost_ret (Q4 (by rfl) _ _ w.heap.size [O J 114,O J 0,O J 0] _ (by rfl) m.range underlying30 rfl kR) rfl ?_;exact EdQ.same j.out (Qm e (dZ _) [O J 114,O J 0,O J 0] 0)
theorem zIh (d f lo:Nat) (g:Option Addr) (i:Nat) (nm:List ByteArray) (b:Int) (G:List (Wpl.Cl × Ce)) (av:Option Addr) (n cap:Nat) (w:wW) (h:BK w d f lo g i nm b G) (k:256<n) :
  cW prog 9 #[pX (some ⟨d,0,none⟩),U av n cap] w (EdQ d f lo g i nm ((3,0,0),b,G) w):=by
 have j:=hid h;have e:=QJ (cZ _ w) (Z #[O J 0,O J 0,O J 0] 30);have p:=AtL.new0 w 30 [O J 0,O J 0,O J 0];have q:¬ (n:Int)=0:=oM;have r:(256:Int)<(n:Int):=oM;clear h k;go_enter func9,ntmps9;go_upto_region 4 with fail
 generalize w.alloc (Z #[O J 0,O J 0,O J 0] 30)=o at *;have a:=hid p;clear p;obtain ⟨_,_,_,A,C,D⟩:=a.out.three;obtain ⟨_,_,_,x,y,z⟩:=(a.out.set 0 (O J 3)).three;obtain ⟨_,_,_,s,t,u⟩:=((a.out.set 0 (O J 3)).set 1 (O J 0)).three;have m:=((a.out.set 0 (O J 3)).set 1 (O J 0)).set 2 (O J 0);go_wp2;refine bodyPost_ret (Q4 (by rfl) _ _ w.heap.size [O J 3,O J 0,O J 0] _ (by rfl) m.range underlying30 rfl kR) rfl ?_;exact EdQ.same j.out (Qm e (dZ _) [O J 3,O J 0,O J 0] 0)
