/- Lemmas. -/
import Derived.Test.YthcblmpncpcfkaaGreatDoorQ04
import Derived.Shelf.Strings.Replace
import Derived.Shelf.LaysM
import Derived.Ground.NamesProg
import Derived.WalkSmall
import Derived.Shelf.Strings.BuilderK
import Derived.Laws.Slices
import Derived.Defers
import Derived.Recover
import Derived.Lib.ItoaNum
import Derived.Lib.ItoaLen
import Derived.Lib.Slices
import Derived.Laws.IdiomStrings
import Derived.Shelf.Strconv.Itoa3
import Derived.Lib.AppendIntMem
import Derived.Shelf.Strings.Search1
set_option maxHeartbeats 16000000
set_option maxRecDepth 100000
set_option linter.unusedVariables false
open Option renaming none->fX,some->hX
open Bool renaming true->iX,false->jX
open Decidable renaming decide->kX
open Go.RowKit.Below renaming refl->bZ,heap_setCell->nZ
open Nat renaming le_refl->cZ,zero_le->hZ,zero_add->eY,lt_or_ge->fY,le_succ->iY,lt_of_lt_of_le->lY,le_trans->mY,lt_succ_self->sY,not_lt_zero->tY,add_comm->cX,add_zero->dX
open List renaming length_cons->dZ,eq_nil_of_length_eq_zero->gZ,suffix_refl->qZ,isPrefixOf->rZ,drop_suffix->wZ,length_append->yZ,length_drop->dY,length_tail->oY,suffix_cons->pY,tail_suffix->qY,map_toArray->rY,replicate->wY,map_cons->bX,map_nil->eX
open Go.World renaming there->eZ,cell?_setCell_far->iZ,block_lt_of_cell?->mZ,setCells->oZ,cell?_of_block->kY,iterPos->zY
open Int renaming gcd->fZ,toNat_natCast->kZ,eq_ofNat_of_zero_le->tZ,tdiv_eq_ediv_of_nonneg->zZ,tdiv->bY,le_refl->hY,ediv_le_self->nY,ediv_nonneg->uY,mul_nonneg->xY,mul_le_mul->yY
open Bool renaming and_eq_true->jZ,and_false->xZ
open ByteArray renaming mk->sZ,extract->uZ,data_extract->vZ,ext->cY,size_extract->gY,size->jY,get!->vY
open Go renaming World->wW,Value->vW,Calls->cW,Addr->dW
open Go.RowKit renaming Hid->hH
open Go.Value renaming int->O,slice->U,string->V,bool->Y,pointer->pX,agg->gX,tuple->uX
open Go.IntKind renaming i64->J
open Go.Obj renaming cells->Z
open Go.Ending renaming returned->rX
open Go.Operand renaming tmp->mX
namespace Go.Proofs.YthcblmpncpcfkaaGreatDoor
open Tryz
variable {old new l:List UInt8}{w:wW}
open Go.RowKit
def Jv(n:Nat)(x:Wpl.Cl):Bool:=Wpl.rightC x.s x.r x.c&&kX (x.s<(n:Int))
theorem zLk(C M:Nat)(F:Option dW)(E H:Nat)(I:Int)(x:Wpl.Cl)(w:wW)(h:AtL w C [U F E H,O J I,.map (hX M)]) :
  CR 34 #[pX (hX ⟨C,0,fX⟩),gX #[O J x.s,O J x.r,O J x.c]] w (Y (Jv E x)):=by
 have B:=λW=>Qh x.s x.r x.c W
 have A:=QI (bZ _ w) (Z #[O J x.s,O J x.r,O J x.c] 36);have p:=AtL.f3 (AtL.new0 w 36 [O J x.s,O J x.r,O J x.c]);obtain⟨j,_,_,_⟩:=(AtL.below A h).three;have t:=hid A;clear h A;unfold Jv;cases D:Wpl.rightC x.s x.r x.c with
 |false =>
  rw[D]at B;clear D;go_enter func34,ntmps34;go_upto_region 1 with fail
  generalize w.alloc (Z #[O J x.s,O J x.r,O J x.c] 36)=u at*;have i:JI u w.heap.size (O J x.s) (O J x.r) (O J x.c):=p;clear p;have f:=(bZ u.heap.size u).drew;refine wp_region_held_drew (S:=λW=>W.cell? ⟨C,0,fX⟩=hX (U F E H)/\JI W w.heap.size (O J x.s) (O J x.r) (O J x.c)) kR ⟨QB f j,QG f i⟩ (λd=>?_);have o:=hid (QA t.out f);replace i:=QG f i
  replace j:=QB f j
  clear f t;generalize u.drew=L at*;refine tkQ 0 ?_
  refine rdQ 1 (λK q=>?_);go_simp
  refine(B _).mono ?_;rintro e N ⟨rfl,g⟩;have y:=hid (QA o.out g);replace i:=QG g i
  replace j:=QB g j
  clear g o B;go_wp2_with fail
  refine hkQ q ⟨j,i⟩ (λd=>?_);clear q K
  refine tkQ 2 ?_
  refine tnQ 3 ?_
  refine tnQ 4 ?_
  refine tnQ 5 ?_
  refine tnQ 6 ?_
  refine tnQ 7 ?_
  refine tnQ 8 ?_
  refine tnQ 9 ?_
  refine tnQ 10 ?_
  refine tkQ 11 ?_
  refine rdQ 12 (λK q=>?_);go_simp
  refine hkQ q ⟨j,i⟩ (λd=>?_);clear q K
  refine wpAnyH_done kR ?_ _;clear d;go_wp2;go_ret;exact⟨rfl,y.out⟩
 |true =>
  rw[D]at B;clear D;go_enter func34,ntmps34;go_upto_region 1 with fail
  generalize w.alloc (Z #[O J x.s,O J x.r,O J x.c] 36)=u at*;have i:JI u w.heap.size (O J x.s) (O J x.r) (O J x.c):=p;clear p;have f:=(bZ u.heap.size u).drew;refine wp_region_held_drew (S:=λW=>W.cell? ⟨C,0,fX⟩=hX (U F E H)/\JI W w.heap.size (O J x.s) (O J x.r) (O J x.c)) kR ⟨QB f j,QG f i⟩ (λd=>?_);have o:=hid (QA t.out f);replace i:=QG f i
  replace j:=QB f j
  clear f t;generalize u.drew=L at*;refine tkQ 0 ?_
  refine rdQ 1 (λK q=>?_);go_simp
  refine(B _).mono ?_;rintro e N ⟨rfl,g⟩;have y:=hid (QA o.out g);replace i:=QG g i
  replace j:=QB g j
  clear g o B;go_wp2_with fail
  refine hkQ q ⟨j,i⟩ (λd=>?_);clear q K
  refine tkQ 2 ?_
  refine tkQ 3 ?_
  refine tkQ 4 ?_
  refine tkQ 5 ?_
  refine tkQ 6 ?_
  refine tkQ 7 ?_
  refine tkQ 8 ?_
  refine tkQ 9 ?_
  refine tkQ 10 ?_
  refine tkQ 11 ?_
  refine rdQ 12 (λK q=>?_);go_simp
  refine hkQ q ⟨j,i⟩ (λd=>?_);clear q K
  refine wpAnyH_done kR ?_ _;clear d;go_wp2;go_ret;exact⟨rfl,y.out⟩
theorem zCU(b:ByteArray)(i:Nat)(h:i<b.size)(q:128<=(b[i]).toNat):1<=(Utf8.decode b i).2/\i+(Utf8.decode b i).2<=b.size/\∀j,i<=j->(y:j<b.size)->j<i+(Utf8.decode b i).2->128<=(b[j]).toNat:=by
 have g:∀k (f:i+k<b.size),(b.get! (i+k))=b[i+k]:=by
  intro k f;simp[vY,getElem!_pos,f];rfl
 have u:=g 0 h;have A:¬(b[i+0]).toNat<128:=by simpa using q
 have one:i+1<=b.size/\∀j,i<=j->(y:j<b.size)->j<i+1->128<=(b[j]).toNat:=⟨h,λj d o s=>by
  obtain rfl:j=i:=oM;exact q⟩
 have two:∀k,(kX (i+k<b.size)&&(b.get! (i+k)).toNat/64 == 2)=iX->∃f:i+k<b.size,128<=(b[i+k]).toNat:=by
  intro k f;simp only[jZ,decide_eq_true_eq,beq_iff_eq]at f;obtain⟨d,o⟩:=f;rw[g k d]at o;exact⟨d,oM⟩
 simp only[Utf8.decode,u,A,if_false];split
 ·rename_i c
  simp only[jZ]at c;obtain⟨t,b1⟩:=two 1 (by simpa using c.2);split
  ·refine⟨oM,oM,λj d o s=>?_⟩;have:j=i\/j=i+1:=oM;rcases this with rfl|rfl
   ·exact q
   ·exact b1
  ·exact⟨oM,one⟩
 ·split
  ·rename_i c
   simp only[jZ]at c;obtain⟨t,b1⟩:=two 1 (by simpa using c.1.2);obtain⟨B,b2⟩:=two 2 (by simpa using c.2);split
   ·refine⟨oM,oM,λj d o s=>?_⟩;have:j=i\/j=i+1\/j=i+2:=oM;rcases this with rfl|rfl|rfl
    ·exact q
    ·exact b1
    ·exact b2
   ·exact⟨oM,one⟩
  ·split
   ·rename_i c
    simp only[jZ]at c;obtain⟨t,b1⟩:=two 1 (by simpa using c.1.1.2);obtain⟨B,b2⟩:=two 2 (by simpa using c.1.2);obtain⟨C,b3⟩:=two 3 (by simpa using c.2);split
    ·refine⟨oM,oM,λj d o s=>?_⟩;have:j=i\/j=i+1\/j=i+2\/j=i+3:=oM;rcases this with rfl|rfl|rfl|rfl
     ·exact q
     ·exact b1
     ·exact b2
     ·exact b3
    ·exact⟨oM,one⟩
   ·exact⟨oM,one⟩
theorem zKy(b:ByteArray)(i:Nat):∀n,i+n<=b.size->(∀j,i<=j->(o:j<b.size)->j<i+n->¬b[j]=34)->Wlx.quo iX i (b.data.toList.drop i)=Wlx.quo iX (i+n) (b.data.toList.drop (i+n)):=by
 intro n;induction n with
 |zero=>intro _ _;rfl
 |succ n f =>
  intro g d;rw[f oM (λj a b c=>d j a b oM),Qs b (i+n) oM,zCS (d (i+n) oM oM oM)];rfl
theorem zDy(b:ByteArray)(w:wW)(hs:b.size<=9223372036854775806):CR 141 #[V b] w (O J (Wlx.txtSz b.data.toList:Nat)):=by
 have i:=zAD b ⟨#[34]⟩ w oM;rw[zBI]at i;cases H:b.data.toList with
 |nil =>
  simp only[H]at i;go_enter func141,ntmps141;go_wp2_with fail
  refine i.mono ?_;rintro e M ⟨rfl,rfl⟩;go_wp2;go_ret;exact⟨rfl,bZ _ _⟩
 |cons c t =>
  simp only[H]at i;by_cases N:c=34
  ·subst N;have E0:hH (Wlx.txtSz (34::t)=Wlx.quo jX 0 (b.data.toList)):=by
    show _=_;rw[H,JW];rfl
   obtain⟨R,hR⟩:=xV (Wlx.txtSz (34::t))
   rw[hR]at E0 ⊢;clear H hR;go_enter func141,ntmps141;go_wp2_with fail
   refine i.mono ?_;rintro e M ⟨rfl,rfl⟩;go_wp2_with fail
   go_loopw [3] (λx wr=>∃(q:Bool)(pos:Nat),x=Y q/\pos<=b.size/\wr.heap[w.heap.size]?=hX (.stringIter b pos)/\hH (R=Wlx.quo q pos (b.data.toList.drop pos))/\bL w wr) (λ_ wr=>b.size-wr.iterPos w.heap.size)
   case atStart=>exact⟨jX,0,rfl,hZ _,World.iter_heap w b 0,E0,(bZ _ w).alloc (cZ _) _⟩
   case round =>
    obtain⟨q,pos,rfl,hp,hit,g,hb⟩:=hrel;by_cases d:pos<b.size
    ·have nx:=λty=>Lib.run_next_any_at (P:=prog) wr w.heap.size b pos ty hit d
     have y:=λq=>Lib.iterAt_heap wr w.heap.size b pos q hit
     have D:=λq=>Lib.below_iterAt hb (cZ w.heap.size) b q
     have hm:wr.iterPos w.heap.size=pos:=by simp[zY,hit]
     obtain⟨L,f⟩:∃L:Nat,(Utf8.decode b pos).1=L:=⟨_,rfl⟩
     obtain⟨n,A⟩:∃n:Nat,(Utf8.decode b pos).2=n:=⟨_,rfl⟩
     have I:(wr.iterAt w.heap.size b (pos+n)).iterPos w.heap.size=pos+n:=by simp[zY,y]
     have o:1<=n/\pos+n<=b.size/\(((L:Int) == 34)=iX->b[pos]=34/\n=1)/\(((L:Int) == 34)=jX->∀j,pos<=j->(hj:j<b.size)->j<pos+n->¬b[j]=34):=by
      rcases zCE b pos d with⟨h1,e⟩|⟨h1,e⟩
      ·rw[e]at f A;simp only at f A;subst A f;refine⟨cZ _,d,λh=>⟨UInt8.toNat_inj.1 (by have:=beq_iff_eq.1 h;show _=34;omega),rfl⟩,λh j a1 a2 a3=>?_⟩;obtain rfl:j=pos:=oM;intro X;rw[X]at h;exact absurd h dM
      ·obtain⟨M,w2,w3⟩:=zCU b pos d h1;rw[A]at M w2 w3;rw[f]at e;refine⟨M,w2,λh=>by have:=beq_iff_eq.1 h;omega,λh j a1 a2 a3 X=>?_⟩;have:=w3 j a1 a2 a3;rw[X]at this;exact absurd this dM
     obtain⟨f1,T,f3,C⟩:=o;rw[f,A]at nx;have hi:=y (pos+n);have u:=D (pos+n);clear y D f A;cases s:((L:Int) == 34)with
     |true =>
      obtain⟨B,rfl⟩:=f3 s;have E:hH (R=Wlx.quo (!q) (pos+1) (b.data.toList.drop (pos+1))):=by
       show _=_;rw[g.out,Qs b pos d,B,JW]
      clear g f3 C B;go_wp2_with fail
      go_roundw
      case rel=>exact⟨!q,pos+1,rfl,T,hi,E,u⟩
      case measure=>rw[hm,I];omega
     |false =>
      cases q with
      |true =>
       have E:hH (R=Wlx.quo iX (pos+n) (b.data.toList.drop (pos+n))):=by
        show _=_;rw[g.out,zKy b pos n T (C s)]
       clear g f3 C;go_wp2_with fail
       go_roundw
       case rel=>exact⟨iX,pos+n,rfl,T,hi,E,u⟩
       case measure=>rw[hm,I];omega
      |false =>
       have E:hH (R=pos):=by
        show _=_;rw[g.out,Qs b pos d,J7 (C s pos (cZ _) d oM)]
       clear g f3 C;go_wp2;go_ret;exact⟨by rw[E.out];rfl,u⟩
    ·have nx:=λty=>Lib.run_next_end_at (P:=prog) wr w.heap.size b pos ty hit d
     obtain rfl:pos=b.size:=oM;have E:hH (R=if q then 0 else b.size):=by
      show _=_
      rw[g.out,JV b _ d];rfl
     clear g;cases q with
     |true =>
      have S:hH (R=0):=by show _=_;rw[E.out];rfl
      clear E;go_wp2;go_ret;exact⟨by rw[S.out];rfl,hb⟩
     |false =>
      have S:hH (R=b.size):=by show _=_;rw[E.out];rfl
      clear E;go_wp2;go_ret;exact⟨by rw[S.out];rfl,hb⟩
  ·have F:¬(34:UInt8)=c:=λe=>N e.symm
   rw[decide_eq_false F]at i;have E:hH (Wlx.txtSz (c::t)=0):=by show(if c=34 then _ else 0)=0;rw[if_neg N]
   clear H N F;go_enter func141,ntmps141;go_wp2_with fail
   refine i.mono ?_;rintro e M ⟨rfl,rfl⟩;go_wp2;go_ret;exact⟨by rw[E.out];rfl,bZ _ _⟩
def zRY(c:List (List UInt8)):List vW:=c.map λn=>V ⟨n.toArray⟩
theorem zBM(b:ByteArray)(c:List (List UInt8))(n:Nat)(w W:wW)(t:TypeId)(o:Obj)(g:W=w.alloc o)(q:o=Z (zRY c).toArray t)(s:b.size<=9223372036854775807)(j:n=c.length)(d:c.length<=100)(f:∀x∈c,x.length<=100) :
  cW prog 143 #[V b,U (hX ⟨w.heap.size,0,fX⟩) n n] W λe w'=>e=rX (O J (Wlx.nameSz b.data.toList c:Nat))/\bL w w':=by
 subst g q;refine(zD7 b w.heap.size c n _ s j d f (λi h=>?_)).mono ?_
 ·exact(AtL.new0 w t (zRY c)).2.1 i _ (by unfold zRY;simp[h])
 ·rintro e u ⟨rfl,rfl⟩;exact⟨rfl,(bZ _ w).alloc (cZ _) _⟩
theorem zFD(k:Nat)(b:ByteArray)(w:wW)(f:b.size<=9223372036854775806)(i:1<=k)(g:k<=5):CR 106 #[O J k,V b] w (O J (Wlx.sz k b.data.toList:Nat)):=by
 have:k=1\/k=2\/k=3\/k=4\/k=5:=oM;rcases this with rfl|rfl|rfl|rfl|rfl
 ·go_enter func106,ntmps106;go_wp2_with fail
  refine(zCJ _ _ f).mono ?_;rintro e d ⟨rfl,c⟩;go_wp2;go_ret;exact⟨rfl,c⟩
 ·go_enter func106,ntmps106;go_wp2_with fail
  refine(zDy _ _ f).mono ?_;rintro e d ⟨rfl,c⟩;go_wp2;go_ret;exact⟨rfl,c⟩
 ·go_enter func106,ntmps106;go_wp2_with fail
  refine(zMf _ _ oM).mono ?_;rintro e d ⟨rfl,c⟩;go_wp2;go_ret;exact⟨rfl,c⟩
 ·go_enter func106,ntmps106;go_wp2_with fail
  refine(zBM _ Wlx.faults 8 _ _ 9 _ rfl rfl oM rfl dM dM).mono ?_;rintro e d ⟨rfl,c⟩;go_wp2;go_ret;exact⟨rfl,c⟩
 ·go_enter func106,ntmps106;go_wp2_with fail
  refine(zBM _ Wlx.marks 18 _ _ 9 _ rfl rfl oM rfl dM dM).mono ?_;rintro e d ⟨rfl,c⟩;go_wp2;go_ret;exact⟨rfl,c⟩
open Go.Shelf Go.RowKit
def lays155_ren:Go.Shelf.Ren:=⟨fun|155=>144|154=>172|138=>193|165=>194|143=>195|166=>196|197=>197|169=>198|195=>213|218=>214|240=>215|241=>216|219=>217|260=>218|276=>241|277=>242|217=>243|225=>244|224=>245|267=>246|266=>250|314=>251|n=>n,fun|9=>9|3=>3|4=>4|72=>284|0=>0|76=>287|105=>289|21=>21|5=>5|70=>281|20=>20|37=>282|75=>286|127=>309|164=>312|46=>92|119=>315|139=>318|138=>317|146=>367|51=>128|80=>291|n=>n,fun|1=>3|3=>4|4=>5|n=>n⟩
theorem lays155:Go.Proofs.LaysM.n155 prog lays155_ren:={
 mixed:=kR
 f138:=func193.trans (congrArg hX kR)
 f143:=func195.trans (congrArg hX kR)
 f154:=func172.trans (congrArg hX kR)
 f155:=func144.trans (congrArg hX kR)
 f165:=func194.trans (congrArg hX kR)
 f166:=func196.trans (congrArg hX kR)
 f169:=func198.trans (congrArg hX kR)
 f195:=func213.trans (congrArg hX kR)
 f197:=func197.trans (congrArg hX kR)
 f217:=func243.trans (congrArg hX kR)
 f218:=func214.trans (congrArg hX kR)
 f219:=func217.trans (congrArg hX kR)
 f224:=func245.trans (congrArg hX kR)
 f225:=func244.trans (congrArg hX kR)
 f240:=func215.trans (congrArg hX kR)
 f241:=func216.trans (congrArg hX kR)
 f260:=func218.trans (congrArg hX kR)
 f266:=func250.trans (congrArg hX kR)
 f267:=func246.trans (congrArg hX kR)
 f276:=func241.trans (congrArg hX kR)
 f277:=func242.trans (congrArg hX kR)
 f314:=func251.trans (congrArg hX kR)
 t0:=underlying0
 a0:=Tryz.isAgg0
 z0:=Tryz.sizeOf0
 v0:=Tryz.zeroValue0
 t3:=underlying3
 a3:=Tryz.isAgg3
 z3:=Tryz.sizeOf3
 v3:=Tryz.zeroValue3
 t4:=underlying4
 a4:=Tryz.isAgg4
 z4:=Tryz.sizeOf4
 v4:=Tryz.zeroValue4
 t5:=underlying5
 a5:=Tryz.isAgg5
 z5:=Tryz.sizeOf5
 v5:=Tryz.zeroValue5
 t9:=underlying9
 a9:=Tryz.isAgg9
 z9:=Tryz.sizeOf9
 v9:=Tryz.zeroValue9
 t20:=underlying20
 a20:=Tryz.isAgg20
 z20:=Tryz.sizeOf20
 v20:=Tryz.zeroValue20
 t21:=underlying21
 a21:=Tryz.isAgg21
 z21:=Tryz.sizeOf21
 v21:=Tryz.zeroValue21
 t37:=underlying282
 a37:=Tryz.isAgg282
 z37:=Tryz.sizeOf282
 v37:=Tryz.zeroValue282
 t46:=underlying92
 a46:=Tryz.isAgg92
 z46:=Tryz.sizeOf92
 v46:=Tryz.zeroValue92
 t51:=underlying128
 a51:=Tryz.isAgg128
 z51:=Tryz.sizeOf128
 v51:=Tryz.zeroValue128
 t70:=underlying281
 a70:=Tryz.isAgg281
 z70:=Tryz.sizeOf281
 v70:=Tryz.zeroValue281
 t72:=underlying284
 a72:=Tryz.isAgg284
 z72:=Tryz.sizeOf284
 v72:=Tryz.zeroValue284
 t75:=underlying286
 a75:=Tryz.isAgg286
 z75:=Tryz.sizeOf286
 v75:=Tryz.zeroValue286
 t76:=underlying287
 a76:=Tryz.isAgg287
 z76:=Tryz.sizeOf287
 v76:=Tryz.zeroValue287
 t105:=underlying289
 a105:=Tryz.isAgg289
 z105:=Tryz.sizeOf289
 v105:=Tryz.zeroValue289
 t119:=underlying315
 a119:=Tryz.isAgg315
 z119:=Tryz.sizeOf315
 t127:=underlying309
 a127:=Tryz.isAgg309
 z127:=Tryz.sizeOf309
 v127:=Tryz.zeroValue309
 t138:=underlying317
 a138:=Tryz.isAgg317
 z138:=Tryz.sizeOf317
 v138:=Tryz.zeroValue317
 t139:=underlying318
 a139:=Tryz.isAgg318
 z139:=Tryz.sizeOf318
 v139:=Tryz.zeroValue318
 t146:=underlying367
 a146:=Tryz.isAgg367
 z146:=Tryz.sizeOf367
 v146:=Tryz.zeroValue367
 t164:=underlying312
 a164:=Tryz.isAgg312
 z164:=Tryz.sizeOf312
 v164:=Tryz.zeroValue312
 g1:=kR
 g3:=kR
 g4:=kR
 t80:=underlying291
 a80:=Tryz.isAgg291
 z80:=Tryz.sizeOf291
 v80:=Tryz.zeroValue291
 i0:=kR
 i3:=kR
 i4:=kR
 i5:=kR
 i9:=kR
 i20:=kR
 i21:=kR
 i37:=kR
 i46:=kR
 i51:=kR
 i70:=kR
 i72:=kR
 i75:=kR
 i76:=kR
 i80:=kR
 i105:=kR
 i127:=kR
 i138:=kR
 i139:=kR
 i146:=kR
 i164:=kR
 m1:=kR
 s1_3:=λw h=>Go.Proofs.cell_of_shapedOpen_int (zero:=#[O J 0]) (t:=3) h (of_decide_eq_true kR) kR rfl kR kR underlying3
 m3:=kR
 m4:=by kernel_rfl}
theorem zGI:Builder.Extra prog lays155_ren:={
 sizeBuilder:=kR
 liesBuilder:=kR
 t5:=underlying5
 a5:=Tryz.isAgg5
 z5:=Tryz.sizeOf5
 v5:=Tryz.zeroValue5
 infoByte:=kR
 cellsByte:=kR
 sizeByte:=kR
 neB5:=by decide}
def MaxAt(w:wW):Prop:=∃m:Int,w.cell? ⟨lays155_ren.g 1,0,fX⟩=hX (O J m)
theorem MaxAt.below{w':wW}(h:MaxAt w)(d:bL w w'):MaxAt w':=by
 obtain⟨m,c⟩:=h;exact⟨m,(d.cell (p:=⟨lays155_ren.g 1,0,fX⟩) (mZ _ _ c)).trans c⟩
theorem MaxAt.shaped(h:w.ShapedOpen prog):MaxAt w:=lays155.s1_3 w h
def rep(old new l:List UInt8):List UInt8:=Lib.replaceK old new (Lib.count l old) l
theorem zHb(c:old≠[])(h:old.isPrefixOf l=iX):rep old new l=new++rep old new (l.drop old.length):=by
 have d:Lib.index l old=((0:Nat):Int):=by
  cases l with
  |nil=>cases old with|nil=>exact absurd rfl c|cons a b=>simp at h
  |cons b t=>unfold Lib.index;rw[if_pos h];rfl
 have f:=Lib.count_hit c d;unfold rep;rw[f,cX,Lib.replaceK_hit _ _ _ _ 0 d,eY];rfl
theorem zDC{t:List UInt8}{c:UInt8}(q:old≠[])(h:old.isPrefixOf (c::t)=jX):rep old new (c::t)=c::rep old new t:=by
 have g:Lib.index (c::t) old=if Lib.index t old == -1 then -1 else Lib.index t old+1:=by
  conv=>lhs;unfold Lib.index
  rw[if_neg (by rw[h];decide)]
 unfold rep;by_cases s:Lib.index t old=-1
 ·rw[s,if_pos dM]at g;rw[Lib.count_miss g,Lib.count_miss s];rfl
 ·have y:=Lib.index_ge t old;obtain⟨i,d⟩:∃i:Nat,Lib.index t old=i:=⟨(Lib.index t old).toNat,oM⟩
  rw[d,if_neg (by first|(simp;done)|(simp;omega))]at g;have f:Lib.index (c::t) old=((i+1:Nat):Int):=by rw[g];omega
  have j:=Lib.count_hit q f;have u:=Lib.count_hit q d;have o:(c::t).drop (i+1+old.length)=t.drop (i+old.length):=by rw[show i+1+old.length=(i+old.length)+1 by omega];rfl
  rw[o]at j;rw[j,u,cX,Lib.replaceK_hit _ _ _ _ (i+1) f,Lib.replaceK_hit _ _ _ _ i d,o];rfl
theorem zC6(c:old≠[]):rep old new []=[]:=by
 unfold rep;rw[Lib.count_miss (by cases old with|nil=>exact absurd rfl c|cons a b=>rfl)];rfl
theorem zJA(h:(old == new)=jX):Lib.replaceAll l old new=rep old new l:=by
 unfold Lib.replaceAll Lib.replace rep Lib.replaceNum;rw[if_neg (by rw[h];decide),if_pos (Or.inl dM)]
theorem zJs:∀(n:Nat)(l:List UInt8),l.length<=n->rep [34,34] [34] l=Wlx.undbl l:=by
 intro n;induction n with
 |zero=>intro l f;obtain rfl:=gZ (Nat.le_zero.1 f);exact zC6 dM
 |succ n g =>
  intro l f;match l,f with
  |[],_=>exact zC6 dM
  |[c],_=>rw[zDC dM (by simp[rZ]),zC6 dM];rfl
  |c::d::t,f =>
   simp only[dZ]at f;have e:Wlx.undbl (c::d::t)=if c=34/\d=34 then 34::Wlx.undbl t else c::Wlx.undbl (d::t):=by conv=>lhs;unfold Wlx.undbl
   rw[e];by_cases h:c=34/\d=34
   ·obtain⟨rfl,rfl⟩:=h;rw[zHb dM (by simp[rZ]),if_pos ⟨rfl,rfl⟩];show 34::rep [34,34] [34] t=_
    rw[g t oM]
   ·rw[zDC dM (by simp[rZ];intro i j;exact h ⟨i.symm,j.symm⟩),if_neg h,g (d::t) (by simp only[dZ];omega)]
theorem zAq(s old:ByteArray)(h:1<=old.size):Lib.countB s old<=s.size:=by
 have:=Lib.countB_mul_le old h s.size s (cZ _);have c:Lib.countB s old*1<=Lib.countB s old*old.size:=Nat.mul_le_mul_left _ h;omega
theorem zEc(b:ByteArray)(w:wW)(d:MaxAt w)(f:b.size<=1048576):CR 144 #[V b,V ⟨#[34,34]⟩,V ⟨#[34]⟩] w (V ⟨(Wlx.undbl b.data.toList).toArray⟩):=by
 obtain⟨m,d⟩:=d;have c:=zAq b ⟨#[34,34]⟩ dM;have h:=Any.strings_ReplaceAll {lays155 with} zGI b ⟨#[34,34]⟩ ⟨#[34]⟩ m w oM d dM (by show b.size+_*1<=_;omega);rw[zJA dM,zJs _ _ (cZ _)]at h;exact h
end Go.Proofs.YthcblmpncpcfkaaGreatDoor
namespace Wlx
theorem zAt:∀(p l:List UInt8),begins p l=iX->p.length<=l.length
 |[],_,_=>hZ _
 |_::_,[],h=>by simp[begins]at h
 |a::p,b::t,h=>by
  simp only[begins,jZ]at h;have:=zAt p t h.2;simp only[dZ];omega
theorem zDu(l:List UInt8)(c:List (List UInt8)):nameSz l c<=l.length:=by
 induction c with
 |nil=>exact hZ _
 |cons n r d =>
  unfold nameSz;split
  ·rename_i h;exact zAt n l h
  ·exact d
theorem zIM:∀(l:List UInt8)(w:Bool)(i:Nat),quo w i l<=i+l.length
 |[],w,i=>by unfold quo;split <;> simp
 |c::t,w,i=>by
  unfold quo;split
  ·have:=zIM t (!w) (i+1);simp only[dZ];omega
  ·split
   ·have:=zIM t w (i+1);simp only[dZ];omega
   ·omega
theorem zM4(n:Nat)(l:List UInt8):numTl n l<=n+l.length:=by
 cases l with
 |nil=>exact cZ _
 |cons c t =>
  rw[numTl_cons];have:=runP_le dig t;split <;> simp only[dZ] <;> omega
theorem zKx(l:List UInt8):numSz l<=l.length:=by
 unfold numSz;split
 ·exact hZ _
 ·have c:=zM4 (runP dig l) (l.drop (runP dig l));have d:=runP_le dig l;rw[dY]at c;omega
theorem zKf(l:List UInt8):txtSz l<=l.length:=by
 cases l with
 |nil=>exact hZ _
 |cons c t =>
  show(if c=34 then quo iX 1 t else 0)<=_
  split
  ·have:=zIM t iX 1;simp only[dZ];omega
  ·exact hZ _
theorem sz_le(k:Nat)(l:List UInt8):sz k l<=l.length:=by
 unfold sz;split
 ·exact zKx l
 split
 ·exact zKf l
 split
 ·exact runP_le _ l
 split
 ·exact zDu l _
 split
 ·exact zDu l _
 exact hZ _
def hit(l:List UInt8):Nat :=
 if 0<sz 1 l then 1 else if 0<sz 2 l then 2 else if 0<sz 3 l then 3 else if 0<sz 4 l then 4 else if 0<sz 5 l then 5 else 6
theorem hit_pos{l:List UInt8}(h:¬hit l=6):0<sz (hit l) l:=by
 unfold hit at*;repeat' split
 all_goals first|assumption|(exfalso;apply h;simp_all)
theorem zC8(l:List UInt8):1<=hit l:=by unfold hit;(repeat' split) <;> omega
theorem zBR(l:List UInt8):hit l<=6:=by unfold hit;(repeat' split) <;> omega
theorem hit_first{l:List UInt8}{k:Nat}(d:1<=k)(f:k<=5)(h:0<sz k l)(c:∀j,1<=j->j<k->sz j l=0):hit l=k:=by
 have:k=1\/k=2\/k=3\/k=4\/k=5:=by omega
 unfold hit;rcases this with rfl|rfl|rfl|rfl|rfl
 ·rw[if_pos h]
 ·rw[c 1 (by omega) (by omega),if_neg (by omega),if_pos h]
 ·rw[c 1 (by omega) (by omega),if_neg (by omega),c 2 (by omega) (by omega),if_neg (by omega),if_pos h]
 ·rw[c 1 (by omega) (by omega),if_neg (by omega),c 2 (by omega) (by omega),if_neg (by omega),c 3 (by omega) (by omega),if_neg (by omega),if_pos h]
 ·rw[c 1 (by omega) (by omega),if_neg (by omega),c 2 (by omega) (by omega),if_neg (by omega),c 3 (by omega) (by omega),if_neg (by omega),c 4 (by omega) (by omega),if_neg (by omega),if_pos h]
theorem hit_none{l:List UInt8}(c:∀j,1<=j->j<=5->sz j l=0):hit l=6:=by
 unfold hit;rw[c 1 (by omega) (by omega),if_neg (by omega),c 2 (by omega) (by omega),if_neg (by omega),c 3 (by omega) (by omega),if_neg (by omega),c 4 (by omega) (by omega),if_neg (by omega),c 5 (by omega) (by omega),if_neg (by omega)]
structure Tok where
 k:Nat
 t:List UInt8
 p:Nat
abbrev Res:=Sum (List Tok) (Nat×Nat)
abbrev Res.ok(ts:List Tok):Res:=.inl ts
abbrev Res.err(e p:Nat):Res:=.inr (e,p)
def Res.cons(t:Tok):Res->Res
 | .inl ts=>.inl (t::ts)
 | .inr x=>.inr x
def Res.pre:List Tok->Res->Res
 |[],r=>r
 |t::a,r=>Res.cons t (Res.pre a r)
theorem Res.pre_snoc(a:List Tok)(t:Tok)(r:Res):Res.pre (a++[t]) r=Res.pre a (Res.cons t r):=by
 induction a with
 |nil=>rfl
 |cons x a c=>exact congrArg (Res.cons x) c
theorem Res.pre_ok(a b:List Tok):Res.pre a (Res.ok b)=Res.ok (a++b):=by
 induction a with
 |nil=>rfl
 |cons x a c=>show Res.cons x _=_;rw[c];rfl
theorem Res.pre_err(a:List Tok)(e p:Nat):Res.pre a (Res.err e p)=Res.err e p:=by
 induction a with
 |nil=>rfl
 |cons x a c=>show Res.cons x _=_;rw[c];rfl
def VS:Nat->Nat->List UInt8->Res
 |0,_,_=>Res.ok []
 |_+1,_,[]=>Res.ok []
 |f+1,p,c::t =>
  if c=32 then VS f (p+1) t
  else if hit (c::t)=6 then Res.err (if c=34 then 41 else 40) p
  else if runP prt ((c::t).take (sz (hit (c::t)) (c::t)))<sz (hit (c::t)) (c::t)then Res.err 40 (p+runP prt ((c::t).take (sz (hit (c::t)) (c::t))))
  else Res.cons ⟨hit (c::t),said (hit (c::t)) ((c::t).take (sz (hit (c::t)) (c::t))),p⟩ (VS f (p+sz (hit (c::t)) (c::t)) ((c::t).drop (sz (hit (c::t)) (c::t))))
theorem zBC(f p:Nat)(c:UInt8)(t:List UInt8):VS (f+1) p (c::t)=if c=32 then VS f (p+1) t
  else if hit (c::t)=6 then Res.err (if c=34 then 41 else 40) p
  else if runP prt ((c::t).take (sz (hit (c::t)) (c::t)))<sz (hit (c::t)) (c::t)then Res.err 40 (p+runP prt ((c::t).take (sz (hit (c::t)) (c::t))))
  else Res.cons ⟨hit (c::t),said (hit (c::t)) ((c::t).take (sz (hit (c::t)) (c::t))),p⟩ (VS f (p+sz (hit (c::t)) (c::t)) ((c::t).drop (sz (hit (c::t)) (c::t)))):=rfl
theorem zAi(f p:Nat):VS f p []=Res.ok []:=by cases f <;> rfl
theorem zJ6:∀(f g p:Nat)(l:List UInt8),l.length<=f->l.length<=g->VS f p l=VS g p l:=by
 intro f;induction f with
 |zero =>
  intro g p l d j;obtain rfl:=gZ (Nat.le_zero.1 d);rw[zAi,zAi]
 |succ f o =>
  intro g p l d j;cases l with
  |nil=>rw[zAi,zAi]
  |cons c t =>
   simp only[dZ]at d j;obtain⟨g,rfl⟩:∃g',g=g'+1:=⟨g-1,by omega⟩
   rw[zBC,zBC,o g (p+1) t (by omega) (by omega)];by_cases i:hit (c::t)=6
   ·rw[if_pos i,if_pos i]
   ·have:=hit_pos i;have q:((c::t).drop (sz (hit (c::t)) (c::t))).length<=t.length:=by
     rw[dY];simp only[dZ];omega
    rw[o g (p+sz (hit (c::t)) (c::t)) ((c::t).drop (sz (hit (c::t)) (c::t))) (by omega) (by omega)]
def scan(p:Nat)(l:List UInt8):Res:=VS l.length p l
theorem scan_cons(p:Nat)(c:UInt8)(t:List UInt8):scan p (c::t)=if c=32 then scan (p+1) t
  else if hit (c::t)=6 then Res.err (if c=34 then 41 else 40) p
  else if runP prt ((c::t).take (sz (hit (c::t)) (c::t)))<sz (hit (c::t)) (c::t)then Res.err 40 (p+runP prt ((c::t).take (sz (hit (c::t)) (c::t))))
  else Res.cons ⟨hit (c::t),said (hit (c::t)) ((c::t).take (sz (hit (c::t)) (c::t))),p⟩ (scan (p+sz (hit (c::t)) (c::t)) ((c::t).drop (sz (hit (c::t)) (c::t)))):=by
 unfold scan;rw[dZ,zBC];by_cases d:hit (c::t)=6
 ·rw[if_pos d,if_pos d]
 ·have:=hit_pos d;have f:((c::t).drop (sz (hit (c::t)) (c::t))).length<=t.length:=by
   rw[dY];simp only[dZ];omega
  rw[zJ6 t.length _ (p+sz (hit (c::t)) (c::t)) ((c::t).drop (sz (hit (c::t)) (c::t))) f (cZ _)]
theorem scan_nil(p:Nat):scan p []=Res.ok []:=rfl
theorem scan_blank(p:Nat)(t:List UInt8):scan p (32::t)=scan (p+1) t:=by
 rw[scan_cons,if_pos rfl]
theorem scan_none{p:Nat}{c:UInt8}{t:List UInt8}(h:¬c=32)(d:hit (c::t)=6):scan p (c::t)=Res.err (if c=34 then 41 else 40) p:=by
 rw[scan_cons,if_neg h,if_pos d]
theorem scan_bad{p:Nat}{c:UInt8}{t:List UInt8}(h:¬c=32){k n:Nat}(g:hit (c::t)=k)(d:¬k=6)(i:sz k (c::t)=n)(f:runP prt ((c::t).take n)<n):scan p (c::t)=Res.err 40 (p+runP prt ((c::t).take n)):=by
 subst g i;rw[scan_cons,if_neg h,if_neg d,if_pos f]
theorem scan_tok{p:Nat}{c:UInt8}{t:List UInt8}(h:¬c=32){k n:Nat}(g:hit (c::t)=k)(d:¬k=6)(i:sz k (c::t)=n)(f:¬runP prt ((c::t).take n)<n) :
  scan p (c::t)=Res.cons ⟨k,said k ((c::t).take n),p⟩ (scan (p+n) ((c::t).drop n)):=by
 subst g i;rw[scan_cons,if_neg h,if_neg d,if_neg f]
end Wlx
namespace Go.Proofs.YthcblmpncpcfkaaGreatDoor
open Tryz
open Go.Shelf Go.RowKit
variable {w w':wW}
theorem zKX(b:ByteArray)(w:wW)(c:MaxAt w)(j:2<=b.size)(o:b.size<=1048576):CR 109 #[O J 2,V b] w (V ⟨(Wlx.said 2 b.data.toList).toArray⟩):=by
 have f:(1:Int)<=(b.size:Int)-1:=oM;have g:(b.size:Int)-1<=(b.size:Int):=oM;have E:hH (Wlx.undbl (b.extract 1 (b.size-1)).data.toList=Wlx.said 2 b.data.toList):=by
  show _=_
  rw[Lib.extract_data];have:b.data.toList.length=b.size:=rfl;unfold Wlx.said;rw[if_pos rfl,this,show b.size-1-1=b.size-2 by omega]
 have R:=λw c=>zEc (b.extract 1 (b.size-1)) w c (by rw[gY];omega)
 rw[E.out]at R;clear E;generalize Wlx.said 2 b.data.toList=q at*;have i:((b.size:Int)-1).toNat=b.size-1:=oM;go_enter func109,ntmps109;go_wp2_with fail
 refine(R _ c).mono ?_;rintro e s ⟨rfl,d⟩;go_wp2;go_ret;exact⟨rfl,d⟩
theorem zHE(k:Nat)(b:ByteArray)(w:wW)(h:¬k=2):CR 109 #[O J k,V b] w (V ⟨(Wlx.said k b.data.toList).toArray⟩):=by
 have c:((k:Int) != 2)=iX:=by simp;omega
 have E:hH ((⟨(Wlx.said k b.data.toList).toArray⟩:ByteArray)=b):=by
  show _=_;unfold Wlx.said;rw[if_neg h]
 clear h;rw[E.out];go_enter func109,ntmps109;go_wp2;go_ret;exact⟨rfl,bZ _ _⟩
theorem zMH(k:Nat)(b:ByteArray)(w:wW)(d:MaxAt w)(c:k=2->2<=b.size)(f:b.size<=1048576):CR 109 #[O J k,V b] w (V ⟨(Wlx.said k b.data.toList).toArray⟩):=by
 by_cases h:k=2
 ·subst h;exact zKX b w d (c rfl) f
 ·exact zHE k b w h
theorem zFN(b:ByteArray)(w:wW)(f:b.size<=9223372036854775807):cW prog 110 #[V b] w λe w'=>e=rX (O J (if Wlx.begins [34] b.data.toList then 41 else 40))/\w=w':=by
 have c:=zAD b ⟨#[34]⟩ w f;have e0:(⟨#[34]⟩:ByteArray).data.toList=[34]:=rfl;rw[e0]at c;cases d:Wlx.begins [34] b.data.toList with
 |true =>
  rw[d]at c;clear d;go_enter func110,ntmps110;go_wp2_with fail
  refine c.mono ?_;rintro e g ⟨rfl,rfl⟩;go_wp2;go_ret;exact⟨rfl,rfl⟩
 |false =>
  rw[d]at c;clear d;go_enter func110,ntmps110;go_wp2_with fail
  refine c.mono ?_;rintro e g ⟨rfl,rfl⟩;go_wp2;go_ret;exact⟨rfl,rfl⟩
def zRx(t:Wlx.Tok):List vW:=[O J t.k,V ⟨t.t.toArray⟩,O J t.p]
def XF(ts:List Wlx.Tok):List vW:=ts.flatMap zRx
theorem zJX(ts:List Wlx.Tok)(t:Wlx.Tok):XF (ts++[t])=XF ts++zRx t:=by simp[XF]
theorem zOS:(prog.info? 202).map (λi=>(i.zero,i.size,i.bytes))=hX (hX (gX #[O J 0,V ⟨#[]⟩,O J 0]),3,32):=kR
abbrev V8(w:wW)(base:Nat)(v:vW)(ts:List Wlx.Tok):Prop:=w.ownsRow base 202 3 v ts.length (XF ts)
theorem zHa{B:Nat}{v:vW}{ts:List Wlx.Tok}(h:V8 w B v ts)(c:bL w w'):V8 w' B v ts :=
 h.kept (row:=fX) ⟨c.os,c.tape,c.output,c.size,λk d _=>c.block k d⟩ (by cases v.ownBlock <;> simp)
def Qb(l:List UInt8):Wlx.Res:=if 1024<l.length then Wlx.Res.err 2 0 else Wlx.scan 0 l
def zDL(B:Nat)(r:Wlx.Res)(e:Ending)(w:wW):Prop :=
 match r with
 | .inl ts=>∃v,e=rX (uX #[v,O J 0,O J 0])/\V8 w B v ts
 | .inr (c,p)=>e=rX (uX #[U fX 0 0,O J c,O J p])
theorem zHI{row:Option Nat}(f:w.grownBy w' row){k:Nat}{s:ByteArray}{pos:Nat}(d:w.heap[k]?=hX (.stringIter s pos))(c:hX k≠row):w'.heap[k]?=hX (.stringIter s pos):=by
 rw[f.block k (Array.getElem?_eq_some_iff.1 d).1 c];exact d
theorem zGq(d:bL w w'){k:Nat}{s:ByteArray}{pos:Nat}(c:w.heap[k]?=hX (.stringIter s pos)):w'.heap[k]?=hX (.stringIter s pos):=by
 rw[d.block k (Array.getElem?_eq_some_iff.1 c).1];exact c
theorem zKO{c:UInt8}(h:Wlx.prt c=iX):c.toNat<128:=by
 unfold Wlx.prt at h;simp at h;omega
theorem zF3{p:UInt8->Bool}:∀(l:List UInt8),¬Wlx.runP p l<l.length->∀x∈l,p x=iX
 |[],_,x,hx=>by cases hx
 |c::t,h,x,hx=>by
  cases d:p c with
  |false=>rw[Wlx.runP_neg d]at h;simp at h
  |true =>
   rw[Wlx.runP_pos d]at h;simp only[dZ]at h;rcases List.mem_cons.1 hx with rfl|hx
   ·exact d
   ·exact zF3 t oM x hx
end Go.Proofs.YthcblmpncpcfkaaGreatDoor
namespace Wlx
structure TV where
 k:Int
 t:List UInt8
 p:Int
def tv(t:Tok):TV:=⟨t.k,t.t,t.p⟩
end Wlx
namespace Go.Proofs.YthcblmpncpcfkaaGreatDoor
open Tryz
open Go.Shelf Go.RowKit
open Go.RowKit
variable {w w' W:wW}{en:Int}{ts:List Wlx.TV}
def PSt(w:wW)(kp:Nat)(ts:List Wlx.TV)(en:Int):Prop :=
 ∃(c:Option dW)(cap:Nat),ts.length<=cap/\AtL w kp [U c ts.length cap,O J en] /\
  ∀i (h:i<ts.length),∃bb off,c=hX ⟨bb,off,fX⟩/\bb<kp/\w.cell? ⟨bb,off+i*3,fX⟩=hX (O J (ts[i]).k)/\w.cell? ⟨bb,off+i*3+1,fX⟩=hX (V ⟨(ts[i]).t.toArray⟩)/\w.cell? ⟨bb,off+i*3+2,fX⟩=hX (O J (ts[i]).p)
theorem PSt.below{kp:Nat}(h:PSt w kp ts en)(c:bL w w'):PSt w' kp ts en:=by
 obtain⟨f,cap,s,t,u⟩:=h;refine⟨f,cap,s,t.below c,λi y=>?_⟩;obtain⟨g,d,e,A,j,o,q⟩:=u i y;exact⟨g,d,e,A,QB c j,QB c o,QB c q⟩
theorem QD(c:bL w w')(row:Option Nat):w.grownBy w' row:=⟨c.os,c.tape,c.output,c.size,λk d _=>c.block k d⟩
theorem QC{i j:wW}{row:Option Nat}(c:w.grownBy i row)(d:i.grownBy j row):w.grownBy j row :=
 ⟨d.os.trans c.os,d.tape.trans c.tape,d.output.trans c.output,mY c.size d.size,λk f g=>(d.block k (lY f c.size) g).trans (c.block k f g)⟩
def hd(ts:List Wlx.TV)(en:Int):Wlx.TV:=match ts with
 |[]=>⟨0,[],en⟩
 |t::_=>t
def tkV(t:Wlx.TV):vW:=gX #[O J t.k,V ⟨t.t.toArray⟩,O J t.p]
theorem JJ(kp:Nat)(ts:List Wlx.TV)(en:Int)(w:wW)(h:PSt w kp ts en):CR 176 #[pX (hX ⟨kp,0,fX⟩)] w (tkV (hd ts en)):=by
 obtain⟨E,cap,L,g,q⟩:=h;have s:=g.lt;obtain⟨d,F,H,I⟩:=g.two;have C:¬kp=w.heap.size:=oM;cases ts with
 |nil =>
  simp only[List.length_nil]at d;go_enter func176,ntmps176;go_wp2;refine bodyPost_ret (v:=gX #[O J 0,V ⟨#[]⟩,O J en]) (by simp[results,results176,go_sem, *]) rfl ⟨rfl,?_⟩;exact clA
 |cons t r =>
  obtain⟨i,D,e,M,f,j,o⟩:=q 0 sM;subst e;have c:=mZ _ _ f;have B:¬i=w.heap.size:=by simp only at c;omega
  simp only[List.getElem_cons_zero,Nat.zero_mul,dX]at f j o;obtain⟨m,u⟩:=xV (r.length+1)
  simp only[dZ,u]at d;have y:((m:Int) == 0)=jX:=by rw[beq_eq_false_iff_ne];omega
  have A:(0:Int)<(m:Int):=oM;go_enter func176,ntmps176;go_wp2;refine bodyPost_ret (v:=tkV t) (by simp[results,results176,go_sem,tkV, *]) rfl ⟨rfl,?_⟩;exact clA
def Vc(t:Wlx.TV)(m:List UInt8):Bool:=(t.k == 5)&&(t.t == m)
theorem zA3(t:Wlx.TV)(m:List UInt8)(w:wW):CR 258 #[tkV t,V ⟨m.toArray⟩] w (Y (Vc t m)):=by
 obtain⟨k,x,p⟩:=t;unfold Vc;show cW _ _ #[gX #[O J k,V ⟨x.toArray⟩,O J p],V ⟨m.toArray⟩] _ _
 simp only;by_cases d:k=5
 ·subst d;go_enter func258,ntmps258;go_wp2;go_ret;exact⟨Qu sM,clA⟩
 ·have c:(k == 5)=jX:=by simp[d]
  rw[c];go_enter func258,ntmps258;go_wp2;go_ret;exact⟨rfl,clA⟩
def fol(ts:List Wlx.TV)(m:List UInt8):Bool:=match ts with
 |_::t::_=>Vc t m
 |_=>jX
theorem zAV(kp:Nat)(ts:List Wlx.TV)(en:Int)(m:List UInt8)(w:wW)(h:PSt w kp ts en)(o:ts.length<=1024):CR 252 #[pX (hX ⟨kp,0,fX⟩),V ⟨m.toArray⟩] w (Y (fol ts m)):=by
 obtain⟨u,cap,L,g,i⟩:=h;obtain⟨A,B,H,I⟩:=g.two;by_cases d:1<ts.length
 ·obtain⟨y,s,e,M,D,E,F⟩:=i 1 d;subst e;have C:=zA3 (ts[1]) m w;have c:fol ts m=Vc (ts[1]) m:=by
   match ts,d with
   |_::t::_,_=>rfl
  rw[c];clear c i g;have f:(1:Int)<(ts.length:Int):=oM;generalize Vc (ts[1]) m=q at*;unfold tkV at C;go_enter func252,ntmps252;go_wp2_with fail
  refine C.mono ?_;rintro e N ⟨rfl,j⟩;go_wp2;go_ret;exact⟨rfl,j⟩
 ·have c:fol ts m=jX:=by
   match ts,d with
   |[],_=>rfl
   |[_],_=>rfl
   |_::_::_,h=>exact absurd sM h
  rw[c];have f:¬(1:Int)<(ts.length:Int):=oM;go_enter func252,ntmps252;go_wp2;go_ret;exact⟨rfl,bZ _ _⟩
theorem Q8(w:wW)(kp o:Nat)(v:vW):w.grownBy (w.setCell ⟨kp,o,fX⟩ v) (hX kp):=by
 have c:=(bZ kp w).setCell (p:=⟨kp,o,fX⟩) (cZ _) v;refine⟨c.os,c.tape,c.output,c.size,λk f d=>?_⟩;exact nZ _ _ _ _ (λe=>d (by rw[e]))
theorem PSt.far{kp:Nat}(h:PSt w kp ts en){b:Nat}(B:kp<b)(o:Nat)(v:vW):PSt (w.setCell ⟨b,o,fX⟩ v) kp ts en:=by
 obtain⟨d,cap,g,j,q⟩:=h;refine⟨d,cap,g,j.far oM o v,λi s=>?_⟩;obtain⟨f,c,e,t,u,y,A⟩:=q i s;refine⟨f,c,e,t,?_,?_,?_⟩ <;> rw[iZ _ _ _ _ (by simp;omega)] <;> assumption
theorem QV{row:Option Nat}(h:w.grownBy W row){b:Nat}(f:w.heap.size<=b)(o:Nat)(v:vW):w.grownBy (W.setCell ⟨b,o,fX⟩ v) row:=by
 have q:=(bZ b W).setCell (p:=⟨b,o,fX⟩) (cZ _) v;exact⟨q.os.trans h.os,q.tape.trans h.tape,q.output.trans h.output,mY h.size q.size,λk c d=>(q.block k oM).trans (h.block k c d)⟩
theorem PSt.lt{kp:Nat}(h:PSt w kp ts en):kp<w.heap.size:=by
 obtain⟨d,cap,f,c,g⟩:=h;exact c.lt
theorem PSt.moved{kp n cap:Nat}{f av':Option dW}{a r:List Wlx.TV}(D:a.length=n)(u:n+r.length<=cap)(y:AtL w kp [U f (a++r).length cap,O J en])
  (A:∀i (h:i<(a++r).length),∃d c,f=hX ⟨d,c,fX⟩/\d<kp/\w.cell? ⟨d,c+i*3,fX⟩=hX (O J ((a++r)[i]).k)/\w.cell? ⟨d,c+i*3+1,fX⟩=hX (V ⟨((a++r)[i]).t.toArray⟩)/\w.cell? ⟨d,c+i*3+2,fX⟩=hX (O J ((a++r)[i]).p))
  (g:0<r.length->av'=f.map (·.add (n*3))):PSt (w.setCell ⟨kp,0,fX⟩ (U av' r.length (cap-n))) kp r en:=by
 refine⟨av',cap-n,oM,y.set 0 _,λi C=>?_⟩;obtain⟨d,c,e,j,o,q,s⟩:=A (i+n) (by rw[yZ];omega);have B:(a++r)[i+n]'(by rw[yZ];omega)=r[i]:=by
  rw[List.getElem_append_right oM];congr 1
  omega
 rw[B]at o q s;refine⟨d,c+n*3,?_,j,?_,?_,?_⟩
 ·rw[g oM,e];show hX ((⟨d,c,fX⟩:dW).add (n*3))=_
  rw[Addr.add_mid]
 ·rw[iZ _ _ _ _ (by simp;omega),show c+n*3+i*3=c+(i+n)*3 by omega];exact o
 ·rw[iZ _ _ _ _ (by simp;omega),show c+n*3+i*3+1=c+(i+n)*3+1 by omega];exact q
 ·rw[iZ _ _ _ _ (by simp;omega),show c+n*3+i*3+2=c+(i+n)*3+2 by omega];exact s
theorem JH(n:Nat)(kp:Nat)(a r:List Wlx.TV)(en:Int)(w:wW)(h:PSt w kp (a++r) en)(f:a.length=n)(t:n<=2)(g:(a++r).length<=1024):cW prog 201 #[pX (hX ⟨kp,0,fX⟩),O J n] w λe w'=>e=rX (uX #[])/\PSt w' kp r en/\w.grownBy w' (hX kp):=by
 obtain⟨o,cap,c,d,i⟩:=h;obtain⟨s,u,B,C⟩:=d.two;have j:(a++r).length=n+r.length:=by rw[yZ,f]
 rw[j]at c g;simp only[j]at s;have y:(0:Int)<=(n:Int):=oM;have A:(n:Int)<=((n+r.length:Nat):Int):=oM;go_enter func201,ntmps201;go_wp2
 ·go_end0
  refine⟨rfl,?_,Q8 _ _ _ _⟩;have q:=PSt.moved (av':=o) f c d i (λq=>by omega);rw[show cap-n=0 by omega]at q;exact q
 ·go_end0
  exact⟨rfl,PSt.moved f c d i (λh=>rfl),Q8 _ _ _ _⟩
def pos(ts:List Wlx.TV)(en:Int):Int:=(hd ts en).p
def J1(c p:Int):Ending:=.panicked [{v:=.iface 144 (gX #[O J c,O J p]),recovered:=jX}]
theorem zPa(k:Int)(x:ByteArray)(p:Int)(w:wW):(Instr.field 202 (gX #[O J k,V x,O J p]) 2).run prog w=.ok (O J p) w:=kR
theorem zFg(k:Int)(x:ByteArray)(p:Int)(w:wW):(Instr.field 202 (gX #[O J k,V x,O J p]) 0).run prog w=.ok (O J k) w:=kR
theorem zFr(k:Int)(x:ByteArray)(p:Int)(w:wW):(Instr.field 202 (gX #[O J k,V x,O J p]) 1).run prog w=.ok (V x) w:=kR
theorem zCY(kp:Nat)(ts:List Wlx.TV)(en c:Int)(w:wW)(h:PSt w kp ts en):cW prog 146 #[pX (hX ⟨kp,0,fX⟩),O J c] w λe w'=>e=J1 c (pos ts en)/\bL w w':=by
 have N:=JJ kp ts en w h;unfold pos;generalize hd ts en=t at*;obtain⟨k,x,p⟩:=t;unfold tkV at N;simp only at N ⊢;have f:=zPa;go_enter func146,ntmps146;go_wp2_with fail
 refine N.mono ?_;rintro e g ⟨rfl,d⟩;go_wp2;exact⟨rfl,rfl,d⟩
theorem Qa(kp:Nat)(w:wW):cW prog 112 #[pX (hX ⟨kp,0,fX⟩),Y iX] w λe w'=>e=rX (uX #[])/\w=w':=by
 go_enter func112,ntmps112;go_wp2;go_end0
 exact⟨rfl,rfl⟩
theorem Qp(kp:Nat)(ts:List Wlx.TV)(en:Int)(w:wW)(h:PSt w kp ts en):cW prog 112 #[pX (hX ⟨kp,0,fX⟩),Y jX] w λe w'=>e=J1 50 (pos ts en)/\bL w w':=by
 have N:=zCY kp ts en 50 w h;unfold J1 at N ⊢;go_enter func112,ntmps112;go_wp2_with fail
 refine N.mono ?_;rintro e d ⟨rfl,c⟩;go_wp2;exact⟨rfl,rfl,c⟩
def tk(ts:List Wlx.TV)(m:List UInt8):Option (List Wlx.TV):=match ts with
 |[]=>fX
 |t::r=>if Vc t m then hX r else fX
theorem Qv(kp:Nat)(ts:List Wlx.TV)(en:Int)(m:List UInt8)(w:wW)(h:PSt w kp ts en)(g:ts.length<=1024):cW prog 256 #[pX (hX ⟨kp,0,fX⟩),V ⟨m.toArray⟩] w λe w' =>
  match tk ts m with
  |some r=>e=rX (Y iX)/\PSt w' kp r en/\w.grownBy w' (hX kp)
  |none=>e=rX (Y jX)/\PSt w' kp ts en/\w.grownBy w' (hX kp):=by
 have N:=JJ kp ts en w h;have M:=λw=>zA3 (hd ts en) m w
 cases ts with
 |nil =>
  have e0:Vc (hd [] en) m=jX:=rfl;rw[e0]at M;generalize hd [] en=t at*;simp only[tk];go_enter func256,ntmps256;go_wp2_with fail
  refine N.mono ?_;rintro e o ⟨rfl,c⟩;go_wp2_with fail
  refine(M _).mono ?_;rintro e i ⟨rfl,d⟩;have f:=QA c d;go_wp2;go_ret;exact⟨rfl,h.below f,QD f _⟩
 |cons t r =>
  have e0:hd (t::r) en=t:=rfl;rw[e0]at M N;simp only[tk];cases j:Vc t m with
  |false =>
   rw[j]at M;rw[if_neg dM];go_enter func256,ntmps256;go_wp2_with fail
   refine N.mono ?_;rintro e o ⟨rfl,c⟩;go_wp2_with fail
   refine(M _).mono ?_;rintro e i ⟨rfl,d⟩;have f:=QA c d;go_wp2;go_ret;exact⟨rfl,h.below f,QD f _⟩
  |true =>
   rw[j]at M;rw[if_pos rfl];go_enter func256,ntmps256;go_wp2_with fail
   refine N.mono ?_;rintro e o ⟨rfl,c⟩;go_wp2_with fail
   refine(M _).mono ?_;rintro e i ⟨rfl,d⟩;have f:=QA c d;have P:=JH 1 kp [t] r en i (h.below f) rfl dM g;go_wp2_with fail
   refine P.mono ?_;rintro e u ⟨rfl,s,q⟩;go_wp2;go_ret;exact⟨rfl,s,QC (QD f _) q⟩
theorem AtL.grown{g:wW}{k:Nat}{vs:List vW}{row:Option Nat}(h:AtL W k vs)(o:W.grownBy g row)(f:hX k≠row):AtL g k vs:=by
 obtain⟨j,q,s⟩:=h;have c:=o.block k j f;refine⟨lY j o.size,λi v d=>?_,λi d=>?_⟩
 ·exact(kY (a:=⟨k,i,fX⟩) c).trans (q i v d)
 ·rw[<-s i d];unfold World.frozen?;simp only[c]
def Jc(k:Int)(ts:List Wlx.TV):Option ((Int×List UInt8×Int)×List Wlx.TV):=match ts with
 |[]=>fX
 |t::r=>if t.k=5 then(Wt.opAs t.t k).map λo=>(o,r)else fX
def JT(kp:Nat)(en:Int)(ts:List Wlx.TV)(r:Option ((Int×List UInt8×Int)×List Wlx.TV))(w:wW)(e:Ending)(w':wW):Prop:=match r with
 |some ((o,m,t),r)=>e=rX (uX #[gX #[O J o,V ⟨m.toArray⟩,O J t],Y iX])/\PSt w' kp r en/\w.grownBy w' (hX kp)
 |none=>e=rX (uX #[gX #[O J 0,V ⟨#[]⟩,O J 0],Y jX])/\PSt w' kp ts en/\w.grownBy w' (hX kp)
theorem zAK(kp:Nat)(ts:List Wlx.TV)(en k:Int)(w:wW)(h:PSt w kp ts en)(ae:ts.length<=1024)(hO:OpsAt w):cW prog 174 #[pX (hX ⟨kp,0,fX⟩),O J k] w λe w'=>JT kp en ts (Jc k ts) w e w':=by
 have h':PSt (w.alloc (Z #[O J 0,V ⟨#[]⟩,O J 0] 222)) kp ts en:=h.below ((bZ _ _).alloc (cZ _) _);have N:=JJ kp ts en _ h';clear h';have C:=hO.alloc (Z #[O J 0,V ⟨#[]⟩,O J 0] 222);have S:=AtL.new0 w 222 [O J 0,V ⟨#[]⟩,O J 0];have y:=QI (bZ _ w) (Z #[O J 0,V ⟨#[]⟩,O J 0] 222);obtain⟨t,R⟩:=xV (hd ts en)
 have A:=λw h=>zJD ⟨t.t.toArray⟩ k w h
 have e1:(⟨t.t.toArray⟩:ByteArray).data.toList=t.t:=rfl;rw[e1]at A;clear e1;rw[R]at N;have T:Jc k ts=if t.k=5 then(Wt.opAs t.t k).map λo=>(o,ts.tail)else fX:=by
  cases ts with
  |nil=>subst R;rfl
  |cons a r=>subst R;rfl
 have ab:t.k=5->∃r,ts=t::r:=by
  intro L;cases ts with
  |nil=>subst R;exact absurd L (by show¬(0:Int)=5;decide)
  |cons a r=>subst R;exact⟨r,rfl⟩
 rw[T];clear R T;obtain⟨tk,D,E⟩:=t;simp only at A ab ⊢;unfold tkV at N;simp only at N;cases ha:Wt.opAs D k with
 |none =>
  rw[ha]at A;have e2:(if tk=5 then Option.map (λo=>(o,ts.tail)) (fX:Option (Int×List UInt8×Int))else fX)=fX:=by split <;> rfl
  rw[e2];simp only[JT];simp only[opV]at A;go_enter func174,ntmps174;go_wp2_with fail
  refine N.mono ?_;rintro e w1 ⟨rfl,c⟩;have s:=AtL.below c S;have g:=QA y c;have j:=C.below c;have I:=A _ (j.alloc (Z #[O J tk,V ⟨D.toArray⟩,O J E] 202));have u:=AtL.alloc s (Z #[O J tk,V ⟨D.toArray⟩,O J E] 202);have i:=QI g (Z #[O J tk,V ⟨D.toArray⟩,O J E] 202);clear S y C N c s g j A;go_wp2_with fail
  refine I.mono ?_;rintro e F ⟨rfl,d⟩;have f:=AtL.below d u;have B:=QA i d;have X:=f.lt;have hx:¬w.heap.size=F.heap.size:=oM;have ac:¬F.heap.size=w.heap.size:=oM;obtain⟨c0,c1,c2,f0,f1,f2⟩:=f.three;clear I u i d;go_wp2;refine bodyPost_ret (v:=uX #[gX #[O J 0,V ⟨#[]⟩,O J 0],Y jX]) (by simp[results,results174,go_sem, *]) rfl ?_;have hf:∀W:wW,bL w W->(rX (uX #[gX #[O J 0,V ⟨#[]⟩,O J 0],Y jX])=rX (uX #[gX #[O J 0,V ⟨#[]⟩,O J 0],Y jX])/\PSt W kp ts en/\w.grownBy W (hX kp)):=λW hW=>⟨rfl,h.below hW,QD hW _⟩
  exact hf _ (clB B)
 |some q =>
  obtain⟨o,m,t2⟩:=q;rw[ha]at A;simp only[opV]at A;by_cases L:tk=5
  ·rw[if_pos L];obtain⟨r,hr⟩:=ab L;subst hr;simp only[Option.map_some,List.tail_cons,JT];subst L;go_enter func174,ntmps174;go_wp2_with fail
   refine N.mono ?_;rintro e w1 ⟨rfl,c⟩;have s:=AtL.below c S;have g:=QA y c;have j:=C.below c;have I:=A _ (j.alloc (Z #[O J 5,V ⟨D.toArray⟩,O J E] 202));have u:=AtL.alloc s (Z #[O J 5,V ⟨D.toArray⟩,O J E] 202);have i:=QI g (Z #[O J 5,V ⟨D.toArray⟩,O J E] 202);clear S y C N c s g j A;go_wp2_with fail
   refine I.mono ?_;rintro e F ⟨rfl,d⟩;have H:=d;have f:=AtL.below d u;have B:=QA i d;have X:=f.lt;have hx:¬w.heap.size=F.heap.size:=oM;have ac:¬F.heap.size=w.heap.size:=oM;obtain⟨c0,c1,c2,f0,f1,f2⟩:=f.three;clear I u i d;have pT:=AtL.below H (AtL.new0 w1 202 [O J 5,V ⟨D.toArray⟩,O J E]);obtain⟨u0,u1,u2⟩:=pT.f3;have aa:=pT.lt;have af:=AtL.new0 F 222 [O J o,V ⟨m.toArray⟩,O J t2];have P:=JH 1 kp [⟨5,D,E⟩] r en (F.alloc (Z #[O J o,V ⟨m.toArray⟩,O J t2] 222)) (h.below (QI B _)) rfl dM ae;have ad:=QI B (Z #[O J o,V ⟨m.toArray⟩,O J t2] 222);have M:=h.lt;go_wp2_with fail
   refine P.mono ?_;rintro e w3 ⟨rfl,hp,hg⟩;have ah:AtL w3 w.heap.size [O J 0,V ⟨#[]⟩,O J 0]:=AtL.grown (AtL.alloc f _) hg (by intro e;have:=Option.some.inj e;omega);have ag:AtL w3 F.heap.size [O J o,V ⟨m.toArray⟩,O J t2]:=AtL.grown af hg (by intro e;have:=Option.some.inj e;omega);have hG:=QC (QD ad (hX kp)) hg;obtain⟨c0,c1,c2,f0,f1,f2⟩:=ah.three;obtain⟨d0,d1,d2,g0,g1,g2⟩:=ag.three;go_wp2;refine bodyPost_ret (v:=uX #[gX #[O J o,V ⟨m.toArray⟩,O J t2],Y iX]) (by simp[results,results174,go_sem, *]) rfl ?_;exact⟨rfl,((hp.far M _ _).far M _ _).far M _ _,QV (QV (QV hG (cZ _) _ _) (cZ _) _ _) (cZ _) _ _⟩
  ·rw[if_neg L];have ai:(tk == 5)=jX:=by simp[L]
   simp only[JT];go_enter func174,ntmps174;go_wp2_with fail
   refine N.mono ?_;rintro e w1 ⟨rfl,c⟩;have s:=AtL.below c S;have g:=QA y c;have j:=C.below c;have I:=A _ (j.alloc (Z #[O J tk,V ⟨D.toArray⟩,O J E] 202));have u:=AtL.alloc s (Z #[O J tk,V ⟨D.toArray⟩,O J E] 202);have i:=QI g (Z #[O J tk,V ⟨D.toArray⟩,O J E] 202);clear S y C N c s g j A;go_wp2_with fail
   refine I.mono ?_;rintro e F ⟨rfl,d⟩;have H:=d;have f:=AtL.below d u;have B:=QA i d;have X:=f.lt;have hx:¬w.heap.size=F.heap.size:=oM;have ac:¬F.heap.size=w.heap.size:=oM;obtain⟨c0,c1,c2,f0,f1,f2⟩:=f.three;clear I u i d;have pT:=AtL.below H (AtL.new0 w1 202 [O J tk,V ⟨D.toArray⟩,O J E]);obtain⟨u0,u1,u2⟩:=pT.f3;have aa:=pT.lt;have hy:¬w1.heap.size=F.heap.size:=oM;go_wp2;refine bodyPost_ret (v:=uX #[gX #[O J 0,V ⟨#[]⟩,O J 0],Y jX]) (by simp[results,results174,go_sem, *]) rfl ?_;have hf:∀W:wW,bL w W->(rX (uX #[gX #[O J 0,V ⟨#[]⟩,O J 0],Y jX])=rX (uX #[gX #[O J 0,V ⟨#[]⟩,O J 0],Y jX])/\PSt W kp ts en/\w.grownBy W (hX kp)):=λW hW=>⟨rfl,h.below hW,QD hW _⟩
   exact hf _ (clB B)
open Go.RowKit Go.Shelf
theorem zGa(v:vW)(w:wW):(Instr.typeAssert (.iface 144 v) 20 144 iX).run prog w=.ok (uX #[v,Y iX]) w:=kR
theorem zGu(w:wW):(Instr.typeAssert .nilIface 20 144 iX).run prog w=.ok (uX #[gX #[O J 0,O J 0],Y jX]) w:=kR
theorem zD4(a b c:Nat)(d at':Int)(x y z:vW)(f:List PanicEntry)(w:wW)(u:AtL w a [x])(A:AtL w b [y])(B:AtL w c [z])(i:a≠b)(j:a≠c)(o:b≠c) :
  CallsD prog 78 #[pX (hX ⟨a,0,fX⟩),pX (hX ⟨b,0,fX⟩),pX (hX ⟨c,0,fX⟩)] (.panicking ({v:=.iface 144 (gX #[O J d,O J at']),recovered:=jX}::f)) w λe M w' =>
   e=rX (uX #[])/\M=.panicking ({v:=.iface 144 (gX #[O J d,O J at']),recovered:=iX}::f)/\AtL w' a [U fX 0 0]/\AtL w' b [O J d]/\AtL w' c [O J at']/\∀lo,lo<=a->lo<=b->lo<=c->Below lo w w':=by
 have la:=u.1;have lb:=A.1;have lc:=B.1;have na:a≠w.heap.size:=oM;have nb:b≠w.heap.size:=oM;have nc:c≠w.heap.size:=oM;have g:∃W,W=w.alloc (Z #[O J d,O J at'] 144):=⟨_,rfl⟩
 obtain⟨W,g⟩:=g;have L:AtL W w.heap.size [O J d,O J at']:=by
  rw[g];exact AtL.new0 w 144 [O J d,O J at']
 have q:AtL W a [x]:=by rw[g];exact u.alloc _
 have s:AtL W b [y]:=by rw[g];exact A.alloc _
 have pc:AtL W c [z]:=by rw[g];exact B.alloc _
 have C:bL w W:=by rw[g];exact QI (bZ _ w) _
 refine callsD_of_wpS func78 rfl λc₀ cs D=>?_
 apply wpS_seq
 apply wpS_region
 simp[wpOpsS,go_sem,recoverD,D,ntmps78,Exit.thenS,zGa,Array.replicate,wY];rw[<-g];apply wpS_seq
 apply wpS_region
 simp[wpOpsS,go_sem,Exit.thenS];refine wpS_cond (t:=iX) (by simp[Act.eval]) ?_;simp only[if_true];refine wpS_of_wp ?_;clear g;obtain⟨r0,r1,q0,q1⟩:=L.two;have N:=q.2.1 0 _ rfl;have P:=s.2.1 0 _ rfl;have R:=pc.2.1 0 _ rfl;have S:=q.2.2 0 sM;have T:=s.2.2 0 sM;have X:=pc.2.2 0 sM;go_region
 have E:AtL (((W.setCell ⟨a,0,fX⟩ (U fX 0 0)).setCell ⟨b,0,fX⟩ (O J d)).setCell ⟨c,0,fX⟩ (O J at')).drew a [U fX 0 0]/\AtL (((W.setCell ⟨a,0,fX⟩ (U fX 0 0)).setCell ⟨b,0,fX⟩ (O J d)).setCell ⟨c,0,fX⟩ (O J at')).drew b [O J d]/\AtL (((W.setCell ⟨a,0,fX⟩ (U fX 0 0)).setCell ⟨b,0,fX⟩ (O J d)).setCell ⟨c,0,fX⟩ (O J at')).drew c [O J at']/\∀lo,lo<=a->lo<=b->lo<=c->Below lo w (((W.setCell ⟨a,0,fX⟩ (U fX 0 0)).setCell ⟨b,0,fX⟩ (O J d)).setCell ⟨c,0,fX⟩ (O J at')).drew:=by
  refine⟨(((q.set 0 _).far (Ne.symm i) 0 _).far (Ne.symm j) 0 _).drew,(((s.far i 0 _).set 0 _).far (Ne.symm o) 0 _).drew,(((pc.far j 0 _).far o 0 _).set 0 _).drew,λlo F H I=>?_⟩;exact((((C.mono oM).setCell (p:=⟨a,0,fX⟩) F _).setCell (p:=⟨b,0,fX⟩) H _).setCell (p:=⟨c,0,fX⟩) I _).drew
 simpa[bodyPostS,results,results78]using E
theorem zBy(a b c:Nat)(w:wW) :
  CallsD prog 78 #[pX (hX ⟨a,0,fX⟩),pX (hX ⟨b,0,fX⟩),pX (hX ⟨c,0,fX⟩)] .returning w λe f w'=>e=rX (uX #[])/\f=.returning/\bL w w':=by
 refine callsD_of_wpS func78 rfl λc₀ cs d=>?_
 apply wpS_seq
 apply wpS_region
 simp[wpOpsS,go_sem,recoverD,d,ntmps78,Exit.thenS,zGu,Array.replicate,wY];apply wpS_seq
 apply wpS_region
 simp[wpOpsS,go_sem,Exit.thenS];refine wpS_cond (t:=jX) (by simp[Act.eval]) ?_;simp only[Bool.false_eq_true,if_false];refine wpS_of_wp (wp_skip ?_);have g:=QI (bZ _ w) (Z #[O J 0,O J 0] 144);cases c₀
 simp_all [bodyPostS,results,results78]
end Go.Proofs.YthcblmpncpcfkaaGreatDoor
namespace Go.Proofs.YthcblmpncpcfkaaGreatDoor.Wnum
def tenP(k:Nat):Int:=10 ^ k
theorem tenP_succ(k:Nat):tenP (k+1)=tenP k*10:=by unfold tenP;exact Int.pow_succ 10 k
theorem tenP_pos(k:Nat):1<=tenP k:=by
 induction k with
 |zero=>exact hY _
 |succ k c=>rw[tenP_succ];omega
theorem zDn(k n:Nat):tenP k<=tenP (k+n):=by
 induction n with
 |zero=>exact hY _
 |succ n c=>rw[<-Nat.add_assoc,tenP_succ];have:=tenP_pos (k+n);omega
theorem zEs:tenP 12=1000000000000:=dM
theorem zLe:tenP 6=1000000:=dM
theorem tenP_le12{k:Nat}(h:k<=12):tenP k<=1000000000000:=by
 have:=zDn k (12-k);rw[show k+(12-k)=12 by omega,zEs]at this;exact this
theorem tenP_le6{k:Nat}(h:k<=6):tenP k<=1000000:=by
 have:=zDn k (6-k);rw[show k+(6-k)=6 by omega,zLe]at this;exact this
end Go.Proofs.YthcblmpncpcfkaaGreatDoor.Wnum
namespace Go.Proofs.YthcblmpncpcfkaaGreatDoor.Wnum
def bt(s:ByteArray)(i:Nat):Int:=((s.data.toList.getD i 0).toNat:Int)
abbrev isD(b:Int):Prop:=48<=b/\b<=57
def cnt(s:ByteArray):Nat->Nat->Nat
 |_,0=>0
 |i,k+1=>if isD (bt s i)then cnt s (i+1) k+1 else 0
def say(s:ByteArray)(i:Nat):Nat->Int
 |0=>0
 |k+1=>say s i k*10+(bt s (i+k)-48)
theorem bt_bd(s:ByteArray)(i:Nat):0<=bt s i/\bt s i<=255:=by
 unfold bt;have:=(s.data.toList.getD i 0).toNat_lt;omega
theorem bt_get{s:ByteArray}{i:Nat}(h:i<s.size):(((s[i]'h).toNat:Nat):Int)=bt s i:=by
 unfold bt;obtain⟨⟨l⟩⟩:=s;have c:i<l.length:=h;have e:(sZ ⟨l⟩)[i]'h=l.getD i 0:=by
  simp only[List.getD,List.getElem?_eq_getElem c,Option.getD_some];rfl
 rw[e]
theorem zP2(s:ByteArray):∀k i,cnt s i k<=k:=by
 intro k;induction k with
 |zero=>intro i;exact cZ _
 |succ k c =>
  intro i;show(if isD (bt s i)then cnt s (i+1) k+1 else 0)<=k+1
  split
  ·have:=c (i+1);omega
  ·omega
theorem zO1(s:ByteArray):∀k i j,j<cnt s i k->isD (bt s (i+j)):=by
 intro k;induction k with
 |zero=>intro i j h;exact absurd h (tY _)
 |succ k d =>
  intro i j h;have e:cnt s i (k+1)=if isD (bt s i)then cnt s (i+1) k+1 else 0:=rfl
  rw[e]at h;by_cases c:isD (bt s i)
  ·rw[if_pos c]at h;cases j with
   |zero=>exact c
   |succ j =>
    have:=d (i+1) j oM;rw[show i+1+j=i+(j+1) by omega]at this;exact this
  ·rw[if_neg c]at h;omega
theorem zO5(s:ByteArray):∀k i,cnt s i k<k->¬isD (bt s (i+cnt s i k)):=by
 intro k;induction k with
 |zero=>intro i h;omega
 |succ k d =>
  intro i h;have e:cnt s i (k+1)=if isD (bt s i)then cnt s (i+1) k+1 else 0:=rfl
  rw[e]at h ⊢;by_cases c:isD (bt s i)
  ·rw[if_pos c]at h ⊢;have:=d (i+1) oM;rw[show i+1+cnt s (i+1) k=i+(cnt s (i+1) k+1) by omega]at this;exact this
  ·rw[if_neg c];exact c
theorem zC5{s:ByteArray}{i:Nat}:∀k,(∀m,m<k->isD (bt s (i+m)))->0<=say s i k:=by
 intro k;induction k with
 |zero=>intro _;exact hY _
 |succ k c =>
  intro h;have d:=c (λm g=>h m oM);have f:=(h k oM).1;show 0<=say s i k*10+(bt s (i+k)-48)
  omega
theorem zKv{s:ByteArray}{i:Nat}:∀n k,(∀m,m<k+n->isD (bt s (i+m)))->say s i k<=say s i (k+n):=by
 intro n;induction n with
 |zero=>intro k _;exact hY _
 |succ n d =>
  intro k h;have f:=d k (λm c=>h m oM);have g:=(h (k+n) oM).1;have j:=zC5 (s:=s) (i:=i) (k+n) (λm c=>h m oM);show say s i k<=say s i (k+n)*10+(bt s (i+(k+n))-48)
  omega
def dk(s:ByteArray)(i:Nat):Nat:=cnt s i (s.size-i)
def dv(s:ByteArray)(i:Nat):Int:=say s i (dk s i)
def dB(s:ByteArray)(i:Nat):Bool:=kX (0<dk s i/\dv s i<=1000000000000000000)
theorem dk_le(s:ByteArray)(i:Nat):dk s i<=s.size-i:=zP2 s _ i
theorem dk_all(s:ByteArray)(i:Nat):∀m,m<dk s i->isD (bt s (i+m)):=λm h=>zO1 s _ i m h
theorem zPY{s:ByteArray}{i:Nat}(h:i+dk s i<s.size):¬isD (bt s (i+dk s i)):=zO5 s _ i (by unfold dk at*;omega)
theorem zDs(s:ByteArray)(i:Nat):0<=dv s i:=zC5 _ (dk_all s i)
theorem over_before{s:ByteArray}{i j:Nat}(c:j<=dk s i)(h:1000000000000000000<say s i j):dB s i=jX:=by
 have:=zKv (s:=s) (i:=i) (dk s i-j) j (by rw[show j+(dk s i-j)=dk s i by omega];exact dk_all s i);rw[show j+(dk s i-j)=dk s i by omega]at this;unfold dB dv;rw[decide_eq_false_iff_not];omega
theorem ten_step{a d:Int}:(1000000000000000000-d)/10<a↔1000000000000000000<a*10+d:=oM
def rdV(s:ByteArray):Int:=if dB s 0=iX then dv s 0 else 0
def rdS(s:ByteArray):ByteArray:=if dB s 0=iX then s.extract (dk s 0) s.size else⟨#[]⟩
theorem rd_false{s:ByteArray}(h:dB s 0=jX):rdV s=0/\rdS s=⟨#[]⟩:=by unfold rdV rdS;rw[h];exact⟨rfl,rfl⟩
theorem rd_true{s:ByteArray}(h:dB s 0=iX):rdV s=dv s 0/\rdS s=s.extract (dk s 0) s.size:=by unfold rdV rdS;rw[h];exact⟨rfl,rfl⟩
theorem dk_more{s:ByteArray}{i j:Nat}(f:j<=dk s i)(d:i+j<s.size)(c:isD (bt s (i+j))):j<dk s i:=by
 rcases fY j (dk s i)with h|h
 ·exact h
 ·have e:j=dk s i:=oM;exact absurd (e ▸ c) (zPY oM)
theorem dk_stop{s:ByteArray}{i j:Nat}(d:j<=dk s i)(h:s.size<=i+j\/¬isD (bt s (i+j))):dk s i=j:=by
 rcases fY j (dk s i)with c|c
 ·rcases h with h|h
  ·have:=dk_le s i;omega
  ·exact absurd (dk_all s i j c) h
 ·omega
theorem dB_stop{s:ByteArray}{i j:Nat}(e:dk s i=j)(d:say s i j<=1000000000000000000):dv s i=say s i j/\dB s i=kX (0<j):=by
 have c:dv s i=say s i j:=by unfold dv;rw[e]
 refine⟨c,?_⟩;unfold dB;rw[c,e];by_cases h:0<j
 ·rw[decide_eq_true h,decide_eq_true ⟨h,d⟩]
 ·rw[decide_eq_false h,decide_eq_false (λx=>h x.1)]
theorem say_succ(s:ByteArray)(i k:Nat):say s i (k+1)=say s i k*10+(bt s (i+k)-48):=rfl
end Go.Proofs.YthcblmpncpcfkaaGreatDoor.Wnum
namespace Go.Proofs.YthcblmpncpcfkaaGreatDoor
open Tryz
open Go.RowKit
variable {W:wW}{k:Nat}{v0 v1:vW}
theorem zAO(s:ByteArray)(w:wW)(hs:s.size<=9223372036854775807) :
  cW prog 119 #[V s] w λe w'=>e=rX (uX #[O J (Wnum.rdV s),V (Wnum.rdS s),Y (Wnum.dB s 0)])/\∃n,w'=w.drewN n:=by
 go_enter func119,ntmps119;go_wp2;go_loop [2,5,6] (λx i _=>∃j:Nat,∃a:Int,j<=Wnum.dk s 0/\x=O J a/\i=O J j/\0<=a/\a<=1000000000000000000/\hH (Wnum.say s 0 j=a)) (λ_ i _=>s.size-(intOf i).toNat)
 case atStart=>exact⟨0,0,hZ _,rfl,rfl,oM,oM,(rfl:Wnum.say s 0 0=0)⟩
 case round =>
  obtain⟨j,a,X,rfl,rfl,ha,N,C⟩:=hrel;have E:Wnum.dk s 0<=s.size:=by have:=Wnum.dk_le s 0;omega
  have D:=hid X;have HS:=hid E;clear X E;by_cases P:j<s.size
  ·have eb:=Wnum.bt_get P;obtain⟨c0,c1⟩:=Wnum.bt_bd s j;obtain⟨c,M⟩:∃c,c=Wnum.bt s j:=⟨_,rfl⟩
   have H:hH (Wnum.bt s (0+j)=c):=by show _=_;rw[eY,M]
   rw[<-M]at eb c0 c1;clear M;by_cases I:48<=c
   ·by_cases L:c<=57
    ·have lt:=Wnum.dk_more D.out oM (by rw[H.out];exact⟨I,L⟩);have R:=hid lt;have S:hH (Wnum.say s 0 (j+1)=a*10+(c-48)):=by show _=_;rw[Wnum.say_succ,C.out,H.out]
     clear lt;by_cases ov:(1000000000000000000-(c-48))/10<a
     ·have d:=Wnum.over_before (j:=j+1) R.out (by rw[S.out];exact Wnum.ten_step.1 ov);obtain⟨f,g⟩:=Wnum.rd_false d;have u:=hid d;have y:=hid f;have A:=hid g;clear d f g;go_wp2;go_ret3
      exact⟨by rw[u.out,y.out,A.out];rfl,0,rfl⟩
     ·have nv:a*10+(c-48)<=1000000000000000000:=by
       have:¬1000000000000000000<a*10+(c-48):=λh=>ov (Wnum.ten_step.2 h)
       omega
      have n0:0<=a*10+(c-48):=oM;go_wp2;go_round
      case rel=>exact⟨j+1,a*10+(c-48),R.out,by go_num,by go_num,n0,nv,S⟩
      case measure=>simp[intOf];omega
    ·have o:=Wnum.dk_stop D.out (Or.inr (by rw[H.out];intro h;exact L h.2));have ab:=decide_eq_false L;obtain⟨q,t⟩:=Wnum.dB_stop o (by rw[C.out];exact N);rw[C.out]at q;by_cases F:j=0
     ·have d:Wnum.dB s 0=jX:=by rw[t];exact decide_eq_false oM
      have B:((j:Int) == 0)=iX:=by rw[beq_iff_eq];omega
      obtain⟨f,g⟩:=Wnum.rd_false d;have u:=hid d;have y:=hid f;have A:=hid g;clear d f g q t o F;go_wp2;go_ret3
      exact⟨by rw[u.out,y.out,A.out];rfl,0,rfl⟩
     ·have d:Wnum.dB s 0=iX:=by rw[t];exact decide_eq_true oM
      obtain⟨f,g⟩:=Wnum.rd_true d;rw[q]at f;rw[o]at g;have u:=hid d;have y:=hid f;have A:=hid g;clear d f g q t o;have B:((j:Int) == 0)=jX:=by rw[beq_eq_false_iff_ne];omega
      go_wp2;go_quiet (fail)
      go_wp2;go_ret3
      exact⟨by rw[u.out,y.out,A.out];rfl,_,rfl⟩
   ·have o:=Wnum.dk_stop D.out (Or.inr (by rw[H.out];intro h;exact I h.1));have aa:=decide_eq_false I;obtain⟨q,t⟩:=Wnum.dB_stop o (by rw[C.out];exact N);rw[C.out]at q;by_cases F:j=0
    ·have d:Wnum.dB s 0=jX:=by rw[t];exact decide_eq_false oM
     have B:((j:Int) == 0)=iX:=by rw[beq_iff_eq];omega
     obtain⟨f,g⟩:=Wnum.rd_false d;have u:=hid d;have y:=hid f;have A:=hid g;clear d f g q t o F;go_wp2;go_ret3
     exact⟨by rw[u.out,y.out,A.out];rfl,0,rfl⟩
    ·have d:Wnum.dB s 0=iX:=by rw[t];exact decide_eq_true oM
     obtain⟨f,g⟩:=Wnum.rd_true d;rw[q]at f;rw[o]at g;have u:=hid d;have y:=hid f;have A:=hid g;clear d f g q t o;have B:((j:Int) == 0)=jX:=by rw[beq_eq_false_iff_ne];omega
     go_wp2;go_quiet (fail)
     go_wp2;go_ret3
     exact⟨by rw[u.out,y.out,A.out];rfl,_,rfl⟩
  ·have o:=Wnum.dk_stop D.out (Or.inl oM);have T:j=s.size:=by have:=D.out;have:=HS.out;omega
   obtain⟨q,t⟩:=Wnum.dB_stop o (by rw[C.out];exact N);rw[C.out]at q;by_cases F:j=0
   ·have d:Wnum.dB s 0=jX:=by rw[t];exact decide_eq_false oM
    have B:((j:Int) == 0)=iX:=by rw[beq_iff_eq];omega
    obtain⟨f,g⟩:=Wnum.rd_false d;have u:=hid d;have y:=hid f;have A:=hid g;clear d f g q t o T F;go_wp2;go_ret3
    exact⟨by rw[u.out,y.out,A.out];rfl,0,rfl⟩
   ·have d:Wnum.dB s 0=iX:=by rw[t];exact decide_eq_true oM
    obtain⟨f,g⟩:=Wnum.rd_true d;rw[q]at f;rw[o]at g;have u:=hid d;have y:=hid f;have A:=hid g;have jl:j<=s.size:=oM;clear d f g q t o T;have B:((j:Int) == 0)=jX:=by rw[beq_eq_false_iff_ne];omega
    go_wp2;go_quiet (fail)
    go_wp2;go_ret3
    exact⟨by rw[u.out,y.out,A.out];rfl,_,rfl⟩
theorem zL1(n d:Int)(w:wW)(u:-9223372036854775807<=n)(y:n<=9223372036854775807)(A:1<=d)(R:d<=9223372036854775807) :
  CR 89 #[O J n,O J d] w (uX #[gX #[O J (Wnum.oN (hX (Rat.divInt n d))),O J (Wnum.oD (hX (Rat.divInt n d)))],Y (Wnum.oB (hX (Rat.divInt n d)))]):=by
 obtain⟨N,s,t,f,g⟩:=Wnum.mk_tdiv A u y;have D:=hid f;have c:d.tdiv ((fZ n d:Nat):Int)=d/((fZ n d:Nat):Int):=zZ oM;have E:=hid (g.trans c.symm);have i:0<=d/((fZ n d:Nat):Int):=uY oM oM;have j:d/((fZ n d:Nat):Int)<=d:=nY _ oM;rw[<-c]at i j;have P:d.tdiv ((fZ n d:Nat):Int)<=9223372036854775807:=oM;have q:-9223372036854775807<=d.tdiv ((fZ n d:Nat):Int):=oM;have T:J.wrap (d.tdiv ((fZ n d:Nat):Int))=d.tdiv ((fZ n d:Nat):Int):=IntWalk.i64_in _ oM;have C:J.wrap (n.tdiv ((fZ n d:Nat):Int))=n.tdiv ((fZ n d:Nat):Int):=IntWalk.i64_in _ oM;clear f g c j i;have F:(n == -9223372036854775808)=jX:=beq_eq_false_iff_ne.2 oM;have H:(d == -9223372036854775808)=jX:=beq_eq_false_iff_ne.2 oM;have I:(d == 0)=jX:=beq_eq_false_iff_ne.2 oM;have L:kX (d<0)=jX:=by simp;omega
 generalize Rat.divInt n d=r at*;go_enter func89,ntmps89;go_wp2_with (go_at_call 121;refine(zAd _ _ _ oM oM oM oM).mono ?_;rintro e M ⟨rfl,nq,rfl⟩)
 clear F H I L;go_region_with ((go_at_call 122;refine(zBk _ _ r _ s t D E).mono ?_;rintro e M ⟨rfl,o⟩;obtain⟨B,S⟩:=zQE o;have X:=bsz (k:=w.heap.size) o sM))
 all_goals
  go_wp2;refine bodyPost_ret (v:=uX #[gX #[O J (Wnum.oN (hX r)),O J (Wnum.oD (hX r))],Y (Wnum.oB (hX r))]) (by simp[results,results89,go_sem,B]) rfl ⟨rfl,?_⟩;exact clA
def At(W:wW)(k:Nat)(v0 v1:vW):Prop :=
 W.cell? ⟨k,0,fX⟩=hX v0/\W.cell? ⟨k,1,fX⟩=hX v1/\W.frozen? ⟨k,0,fX⟩=jX/\W.frozen? ⟨k,1,fX⟩=jX
theorem At.lt(h:At W k v0 v1):k<W.heap.size:=mZ W ⟨k,0,fX⟩ h.1
theorem At.new(W:wW)(t:TypeId){k:Nat}(c:k=W.heap.size)(v0 v1:vW):At (W.alloc (Z #[v0,v1] t)) k v0 v1:=by
 subst c;exact⟨by simp[go_sem],by simp[go_sem],by simp[go_sem],by simp[go_sem]⟩
theorem At.below{f:wW}(c:bL W f){k:Nat}{v0 v1:vW}(h:At W k v0 v1):At f k v0 v1:=by
 have d:=h.lt;obtain⟨g,i,j,o⟩:=h;exact⟨(c.cell (p:=⟨k,0,fX⟩) d).trans g,(c.cell (p:=⟨k,1,fX⟩) d).trans i,(c.frozen (p:=⟨k,0,fX⟩) d).trans j,(c.frozen (p:=⟨k,1,fX⟩) d).trans o⟩
theorem At.drewN(h:At W k v0 v1)(n:Nat):At (W.drewN n) k v0 v1:=At.below (Q9 (bZ _ _) n) h
theorem zD8{w:wW}(d:bL w W)(c:w.heap.size<=k)(u0 u1:vW):bL w ((W.setCell ⟨k,0,fX⟩ u0).setCell ⟨k,1,fX⟩ u1) :=
 (d.setCell (p:=⟨k,0,fX⟩) c u0).setCell (p:=⟨k,1,fX⟩) c u1
theorem zKJ(k:Int)(w:wW)(d:0<=k)(g:k<=12) :
  cW prog 155 #[O J k] w λe w'=>e=rX (O J (Wnum.tenP k.toNat))/\w=w':=by
 obtain⟨K,rfl⟩:=tZ d;rw[kZ];go_enter func155,ntmps155;go_wp2;go_loop [3,5] (λr i=>∃j:Nat,j<=K/\r=O J (Wnum.tenP j)/\i=O J j) (λ_ i=>K-(intOf i).toNat)
 case atStart=>exact⟨0,hZ _,rfl,rfl⟩
 case round =>
  obtain⟨j,o,rfl,rfl⟩:=hrel;have b1:=Wnum.tenP_pos j;have b2:=Wnum.tenP_le12 (k:=j) oM;by_cases f:j<K
  ·have E:hH (Wnum.tenP (j+1)=Wnum.tenP j*10):=Wnum.tenP_succ j;go_wp2;go_round
   case rel=>exact⟨j+1,oM,by rw[E.out],by go_num⟩
   case measure=>simp[intOf];omega
  ·have c:j=K:=oM;subst c;go_wp2;go_ret;exact⟨rfl,rfl⟩
end Go.Proofs.YthcblmpncpcfkaaGreatDoor
namespace Go.Proofs.YthcblmpncpcfkaaGreatDoor.Wnum
theorem sub_facts{t:ByteArray}{p:Nat}(h:p<=t.size):(t.extract p t.size).size=t.size-p/\∀i,bt (t.extract p t.size) i=bt t (p+i):=by
 constructor
 ·rw[gY];omega
 ·intro i;obtain⟨⟨l⟩⟩:=t;have c:(sZ ⟨l⟩).size=l.length:=rfl;have e:((sZ ⟨l⟩).extract p (sZ ⟨l⟩).size).data.toList=l.drop p:=by
   rw[c];simp;exact List.take_of_length_le sM
  unfold bt;rw[e];show(((l.drop p).getD i 0).toNat:Int)=((l.getD (p+i) 0).toNat:Int)
  simp[List.getD,List.getElem?_drop]
def plB(t:ByteArray)(n:Int):Bool:=kX (t.size<=6)&&kX (n<=1000000000000)&&dB t 0&&kX (dk t 0=t.size)
def plN(t:ByteArray)(n:Int):Int:=if plB t n=iX then n*tenP t.size+dv t 0 else 0
def plD(t:ByteArray)(n:Int):Int:=if plB t n=iX then tenP t.size else 0
theorem pl_false{t:ByteArray}{n:Int}(h:plB t n=jX):plN t n=0/\plD t n=0:=by unfold plN plD;rw[h];exact⟨rfl,rfl⟩
theorem pl_true{t:ByteArray}{n:Int}(h:plB t n=iX):plN t n=n*tenP t.size+dv t 0/\plD t n=tenP t.size:=by unfold plN plD;rw[h];exact⟨rfl,rfl⟩
def fC(t:ByteArray):Int:=bt t (dk t 0)
def fS(t:ByteArray):ByteArray:=(t.extract (dk t 0) t.size).extract 1 (t.extract (dk t 0) t.size).size
def fB(t:ByteArray):Bool :=
 if dB t 0=jX then jX else if dk t 0=t.size then iX else if fC t=46 then plB (fS t) (dv t 0)else if fC t=47 then dB (fS t) 0&&kX (dk (fS t) 0=(fS t).size)else jX
def fN(t:ByteArray):Int :=
 if fB t=jX then 0 else if dk t 0=t.size then dv t 0 else if fC t=46 then plN (fS t) (dv t 0)else dv t 0
def fD(t:ByteArray):Int :=
 if fB t=jX then 0 else if dk t 0=t.size then 1 else if fC t=46 then plD (fS t) (dv t 0)else dv (fS t) 0
theorem f_false{t:ByteArray}(h:fB t=jX):fN t=0/\fD t=0:=⟨if_pos h,if_pos h⟩
theorem f_none{t:ByteArray}(h:dB t 0=jX):fB t=jX:=if_pos h
theorem f_whole{t:ByteArray}(h:dB t 0=iX)(e:dk t 0=t.size):fB t=iX/\fN t=dv t 0/\fD t=1:=by
 have c:fB t=iX:=by unfold fB;rw[if_neg (by rw[h];decide),if_pos e]
 exact⟨c,by unfold fN;rw[if_neg (by rw[c];decide),if_pos e],by unfold fD;rw[if_neg (by rw[c];decide),if_pos e]⟩
theorem f_point{t:ByteArray}(h:dB t 0=iX)(e:¬dk t 0=t.size)(c:fC t=46):fB t=plB (fS t) (dv t 0)/\fN t=plN (fS t) (dv t 0)/\fD t=plD (fS t) (dv t 0):=by
 have f:fB t=plB (fS t) (dv t 0):=by unfold fB;rw[if_neg (by rw[h];decide),if_neg e,if_pos c]
 refine⟨f,?_,?_⟩
 ·cases d:plB (fS t) (dv t 0)with
  |false=>rw[(f_false (f.trans d)).1,(pl_false d).1]
  |true=>unfold fN;rw[if_neg (by rw[f,d];decide),if_neg e,if_pos c]
 ·cases d:plB (fS t) (dv t 0)with
  |false=>rw[(f_false (f.trans d)).2,(pl_false d).2]
  |true=>unfold fD;rw[if_neg (by rw[f,d];decide),if_neg e,if_pos c]
theorem f_over{t:ByteArray}(h:dB t 0=iX)(e:¬dk t 0=t.size)(c:fC t=47):fB t=(dB (fS t) 0&&kX (dk (fS t) 0=(fS t).size))/\(fB t=iX->fN t=dv t 0/\fD t=dv (fS t) 0):=by
 have d:¬fC t=46:=oM;have g:fB t=(dB (fS t) 0&&kX (dk (fS t) 0=(fS t).size)):=by unfold fB;rw[if_neg (by rw[h];decide),if_neg e,if_neg d,if_pos c]
 refine⟨g,λf=>⟨?_,?_⟩⟩
 ·unfold fN;rw[if_neg (by rw[f];decide),if_neg e,if_neg d]
 ·unfold fD;rw[if_neg (by rw[f];decide),if_neg e,if_neg d]
theorem f_other{t:ByteArray}(h:dB t 0=iX)(e:¬dk t 0=t.size)(c:¬fC t=46)(d:¬fC t=47):fB t=jX:=by
 unfold fB;rw[if_neg (by rw[h];decide),if_neg e,if_neg c,if_neg d]
theorem dB_bd{t:ByteArray}{i:Nat}(h:dB t i=iX):0<dk t i/\0<=dv t i/\dv t i<=1000000000000000000:=by
 have:=of_decide_eq_true h;exact⟨this.1,zDs t i,this.2⟩
theorem say_small{s:ByteArray}{i:Nat}:∀k,(∀m,m<k->isD (bt s (i+m)))->say s i k<tenP k:=by
 intro k;induction k with
 |zero=>intro _;exact(by decide:(0:Int)<1)
 |succ k c =>
  intro h;have d:=c (λm g=>h m oM);have f:=(h k oM).2;rw[say_succ,tenP_succ];omega
end Go.Proofs.YthcblmpncpcfkaaGreatDoor.Wnum
namespace Go.Proofs.YthcblmpncpcfkaaGreatDoor
open Tryz
open Go.RowKit
theorem zEH(r:ByteArray):(r.toList == ([]:List UInt8))=kX (r.size=0):=by
 rw[ByteArray.toList_eq];obtain⟨⟨l⟩⟩:=r;cases l <;> rfl
theorem zDB(r:ByteArray):r.toList.isEmpty=kX (r.size=0):=by
 rw[ByteArray.toList_eq];obtain⟨⟨l⟩⟩:=r;cases l <;> rfl
theorem zCK(n:Int)(t:ByteArray)(w:wW)(D:0<=n)(I:n<=1000000000000000000)(E:t.size<=9223372036854775807) :
  cW prog 120 #[O J n,V t] w λe w'=>e=rX (uX #[O J (Wnum.plN t n),O J (Wnum.plD t n),Y (Wnum.plB t n)])/\∃k,w'=w.drewN k:=by
 by_cases H:6<t.size
 ·have c:Wnum.plB t n=jX:=by unfold Wnum.plB;rw[decide_eq_false oM];rfl
  rw[(Wnum.pl_false c).1,(Wnum.pl_false c).2,c];clear c;go_enter func120,ntmps120;go_wp2;go_ret3
  exact⟨rfl,0,rfl⟩
 have A:=decide_eq_false oM;by_cases B:1000000000000<n
 ·have c:Wnum.plB t n=jX:=by unfold Wnum.plB;rw[decide_eq_false (p:=n<=1000000000000) oM,xZ,Bool.false_and];rfl
  rw[(Wnum.pl_false c).1,(Wnum.pl_false c).2,c];clear c;go_enter func120,ntmps120;go_wp2;go_ret3
  exact⟨rfl,0,rfl⟩
 have C:=decide_eq_false B;have P:=λw=>zAO t w E
 cases d:Wnum.dB t 0 with
 |false =>
  have c:Wnum.plB t n=jX:=by unfold Wnum.plB;rw[d,xZ];rfl
  rw[(Wnum.pl_false c).1,(Wnum.pl_false c).2,c];rw[d,(Wnum.rd_false d).1,(Wnum.rd_false d).2]at P;clear c d;go_enter func120,ntmps120;go_wp2_with fail
  refine(P _).mono ?_;rintro e y ⟨rfl,g,rfl⟩;go_wp2;go_ret3
  exact⟨rfl,g,rfl⟩
 |true =>
  obtain⟨b1,b2,b3⟩:=Wnum.dB_bd d;have u:=Wnum.dk_le t 0;have o:=(Wnum.sub_facts (t:=t) (p:=Wnum.dk t 0) oM).1;rw[d,(Wnum.rd_true d).1,(Wnum.rd_true d).2]at P;by_cases f:Wnum.dk t 0=t.size
  ·have c:Wnum.plB t n=iX:=by unfold Wnum.plB;rw[d,decide_eq_true f,decide_eq_true (show t.size<=6 by omega),decide_eq_true (show n<=1000000000000 by omega)];rfl
   have N:Wnum.dv t 0<Wnum.tenP t.size:=by
    have:=Wnum.say_small (s:=t) (i:=0) (Wnum.dk t 0) (Wnum.dk_all t 0);rw[f]at this;unfold Wnum.dv;rw[f];exact this
   rw[(Wnum.pl_true c).1,(Wnum.pl_true c).2,c];have q:=zDB (t.extract (Wnum.dk t 0) t.size);rw[o,decide_eq_true oM]at q;generalize t.extract (Wnum.dk t 0) t.size=r at*;generalize Wnum.dv t 0=v at*;have F:=Wnum.tenP_le6 (k:=t.size) oM;have R:=Wnum.tenP_pos t.size;have T:=λw=>zKJ (t.size:Int) w oM oM
   rw[kZ]at T;generalize Wnum.tenP t.size=j at*;have L:0<=n*j:=xY D oM;have M:n*j<=1000000000000*1000000:=yY oM F oM oM;clear c d o f u b1;go_enter func120,ntmps120;go_wp2_with fail
   refine(P _).mono ?_;rintro e y ⟨rfl,g,rfl⟩;go_wp2_with fail
   refine(T _).mono ?_;rintro e S ⟨rfl,rfl⟩;go_wp2;go_ret3
   exact⟨rfl,g,rfl⟩
  ·have c:Wnum.plB t n=jX:=by unfold Wnum.plB;rw[decide_eq_false f,xZ]
   rw[(Wnum.pl_false c).1,(Wnum.pl_false c).2,c];have q:=zDB (t.extract (Wnum.dk t 0) t.size);rw[o,decide_eq_false oM]at q;generalize t.extract (Wnum.dk t 0) t.size=r at*;generalize Wnum.dv t 0=v at*;clear c d o f u b1;go_enter func120,ntmps120;go_wp2_with fail
   refine(P _).mono ?_;rintro e y ⟨rfl,g,rfl⟩;go_wp2;go_ret3
   exact⟨rfl,g,rfl⟩
theorem zBQ(t:ByteArray)(w:wW)(hs:t.size<=9223372036854775807) :
  cW prog 88 #[V t] w λe w'=>e=rX (uX #[O J (Wnum.fN t),O J (Wnum.fD t),Y (Wnum.fB t)])/\∃k,w'=w.drewN k:=by
 have P:=λw=>zAO t w hs
 cases i:Wnum.dB t 0 with
 |false =>
  have f:=Wnum.f_none i;rw[(Wnum.f_false f).1,(Wnum.f_false f).2,f];rw[i,(Wnum.rd_false i).1,(Wnum.rd_false i).2]at P;clear f i;go_enter func88,ntmps88;go_wp2_with fail
  refine(P _).mono ?_;rintro e F ⟨rfl,B,rfl⟩;go_wp2;go_ret3
  exact⟨rfl,B,rfl⟩
 |true =>
  obtain⟨b1,b2,b3⟩:=Wnum.dB_bd i;have E:=Wnum.dk_le t 0;obtain⟨A,C⟩:=Wnum.sub_facts (t:=t) (p:=Wnum.dk t 0) oM;rw[i,(Wnum.rd_true i).1,(Wnum.rd_true i).2]at P;by_cases y:Wnum.dk t 0=t.size
  ·obtain⟨f,q,I⟩:=Wnum.f_whole i y;rw[f,q,I];have N:=zEH (t.extract (Wnum.dk t 0) t.size);rw[A,decide_eq_true oM]at N;generalize t.extract (Wnum.dk t 0) t.size=r at*;generalize Wnum.dv t 0=v at*;clear f q I i A C y E b1;go_enter func88,ntmps88;go_wp2_with fail
   refine(P _).mono ?_;rintro e F ⟨rfl,B,rfl⟩;go_wp2;go_ret3
   exact⟨rfl,B,rfl⟩
  ·have N:=zEH (t.extract (Wnum.dk t 0) t.size);rw[A,decide_eq_false oM]at N;have r0:0<(t.extract (Wnum.dk t 0) t.size).size:=by rw[A];omega
   have rs:(t.extract (Wnum.dk t 0) t.size).size<=9223372036854775807:=by rw[A];omega
   have H:=Wnum.bt_get r0;rw[C 0,dX]at H;have H:(((t.extract (Wnum.dk t 0) t.size)[0]'r0).toNat:Int)=Wnum.fC t:=H;have S:(Wnum.fS t).size<=9223372036854775807:=by
    have:=(Wnum.sub_facts (t:=t.extract (Wnum.dk t 0) t.size) (p:=1) oM).1;show(((t.extract (Wnum.dk t 0) t.size)).extract 1 (t.extract (Wnum.dk t 0) t.size).size).size<=_
    omega
   have o:hH ((t.extract (Wnum.dk t 0) t.size).extract 1 (t.extract (Wnum.dk t 0) t.size).size=Wnum.fS t):=(rfl:(t.extract (Wnum.dk t 0) t.size).extract 1 (t.extract (Wnum.dk t 0) t.size).size=Wnum.fS t)
   by_cases g:Wnum.fC t=46
   ·obtain⟨f,q,I⟩:=Wnum.f_point i y g;rw[f,q,I];have Q:=λw=>zCK (Wnum.dv t 0) (Wnum.fS t) w b2 b3 S
    rw[g]at H;clear f q I g;generalize Wnum.fS t=u at*;generalize Wnum.dv t 0=v at*;clear i A C y E b1;generalize t.extract (Wnum.dk t 0) t.size=r at*;go_enter func88,ntmps88;go_wp2_with fail
    refine(P _).mono ?_;rintro e F ⟨rfl,B,rfl⟩;go_wp2_with fail
    rw[o.out];refine(Q _).mono ?_;rintro e T ⟨rfl,M,rfl⟩;go_wp2;go_ret3
    exact⟨rfl,_,rfl⟩
   ·by_cases j:Wnum.fC t=47
    ·obtain⟨f,q⟩:=Wnum.f_over i y j;have Q:=λw=>zAO (Wnum.fS t) w S
     rw[j]at H;cases s:Wnum.dB (Wnum.fS t) 0 with
     |false =>
      have d:Wnum.fB t=jX:=by rw[f,s];rfl
      rw[(Wnum.f_false d).1,(Wnum.f_false d).2,d];rw[s,(Wnum.rd_false s).1,(Wnum.rd_false s).2]at Q;clear f q d g j s;generalize Wnum.fS t=u at*;generalize Wnum.dv t 0=v at*;clear i A C y E b1;generalize t.extract (Wnum.dk t 0) t.size=r at*;go_enter func88,ntmps88;go_wp2_with fail
      refine(P _).mono ?_;rintro e F ⟨rfl,B,rfl⟩;go_wp2_with fail
      rw[o.out];refine(Q _).mono ?_;rintro e T ⟨rfl,M,rfl⟩;go_wp2;go_ret3
      exact⟨rfl,_,rfl⟩
     |true =>
      have X:=Wnum.dk_le (Wnum.fS t) 0;have D:=(Wnum.sub_facts (t:=Wnum.fS t) (p:=Wnum.dk (Wnum.fS t) 0) oM).1;have R:=zDB ((Wnum.fS t).extract (Wnum.dk (Wnum.fS t) 0) (Wnum.fS t).size);rw[D]at R;rw[s,(Wnum.rd_true s).1,(Wnum.rd_true s).2]at Q;by_cases L:Wnum.dk (Wnum.fS t) 0=(Wnum.fS t).size
      ·have d:Wnum.fB t=iX:=by rw[f,s,decide_eq_true L];rfl
       rw[(q d).1,(q d).2,d];rw[decide_eq_true oM]at R;clear f q d g j s L X D;generalize Wnum.dv (Wnum.fS t) 0=v2 at*;generalize(Wnum.fS t).extract (Wnum.dk (Wnum.fS t) 0) (Wnum.fS t).size=r2 at*;generalize Wnum.fS t=u at*;generalize Wnum.dv t 0=v at*;clear i A C y E b1;generalize t.extract (Wnum.dk t 0) t.size=r at*;go_enter func88,ntmps88;go_wp2_with fail
       refine(P _).mono ?_;rintro e F ⟨rfl,B,rfl⟩;go_wp2_with fail
       rw[o.out];refine(Q _).mono ?_;rintro e T ⟨rfl,M,rfl⟩;go_wp2;go_ret3
       exact⟨rfl,_,rfl⟩
      ·have d:Wnum.fB t=jX:=by rw[f,decide_eq_false L,xZ]
       rw[(Wnum.f_false d).1,(Wnum.f_false d).2,d];rw[decide_eq_false oM]at R;clear f q d g j s L X D;generalize Wnum.dv (Wnum.fS t) 0=v2 at*;generalize(Wnum.fS t).extract (Wnum.dk (Wnum.fS t) 0) (Wnum.fS t).size=r2 at*;generalize Wnum.fS t=u at*;generalize Wnum.dv t 0=v at*;clear i A C y E b1;generalize t.extract (Wnum.dk t 0) t.size=r at*;go_enter func88,ntmps88;go_wp2_with fail
       refine(P _).mono ?_;rintro e F ⟨rfl,B,rfl⟩;go_wp2_with fail
       rw[o.out];refine(Q _).mono ?_;rintro e T ⟨rfl,M,rfl⟩;go_wp2;go_ret3
       exact⟨rfl,_,rfl⟩
    ·have f:=Wnum.f_other i y g j;rw[(Wnum.f_false f).1,(Wnum.f_false f).2,f];have g1:=beq_eq_false_iff_ne.2 g;have g2:(Wnum.fC t == 47)=jX:=beq_eq_false_iff_ne.2 j;clear f g j o S;generalize Wnum.fC t=c at*;generalize Wnum.dv t 0=v at*;clear i A C y E b1;generalize t.extract (Wnum.dk t 0) t.size=r at*;go_enter func88,ntmps88;go_wp2_with fail
     refine(P _).mono ?_;rintro e F ⟨rfl,B,rfl⟩;go_wp2;go_ret3
     exact⟨rfl,B,rfl⟩
theorem make_neg'(n d N D:Int)(w:wW)(u:hH (-n=N))(t:hH (-d=D))(h1:-9223372036854775807<=n)(h2:n<=9223372036854775807)(h3:-9223372036854775807<=d)(h4:d <= -1)
  (f:-9223372036854775807<=N) (g:N<=9223372036854775807) (C:1<=D) (E:D<=9223372036854775807) :
  CR 89 #[O J n,O J d] w (uX #[gX #[O J (Wnum.oN (hX (Rat.divInt N D))),O J (Wnum.oD (hX (Rat.divInt N D)))],Y (Wnum.oB (hX (Rat.divInt N D)))]):=by
 obtain⟨X,A,B,i,j⟩:=Wnum.mk_tdiv (n:=N) (d:=D) C f g;have I:=hid i;have c:bY (D) ((fZ (N) (D):Nat):Int)=(D)/((fZ (N) (D):Nat):Int):=zZ oM;have L:=hid (j.trans c.symm);have o:0<=(D)/((fZ (N) (D):Nat):Int):=uY oM oM;have q:(D)/((fZ (N) (D):Nat):Int)<=(D):=nY _ oM;rw[<-c]at o q;have g9:bY (D) ((fZ (N) (D):Nat):Int)<=9223372036854775807:=oM;have y:-9223372036854775807<=bY (D) ((fZ (N) (D):Nat):Int):=oM;have hw:J.wrap (bY (D) ((fZ (N) (D):Nat):Int))=bY (D) ((fZ (N) (D):Nat):Int):=IntWalk.i64_in _ oM;have H:J.wrap (bY (N) ((fZ (N) (D):Nat):Int))=bY (N) ((fZ (N) (D):Nat):Int):=IntWalk.i64_in _ oM;clear i j c q o;generalize Rat.divInt (N) (D)=r at*;have M:(n == -9223372036854775808)=jX:=beq_eq_false_iff_ne.2 oM;have P:(d == -9223372036854775808)=jX:=beq_eq_false_iff_ne.2 oM;have R:(d == 0)=jX:=beq_eq_false_iff_ne.2 oM;have S:kX (d<0)=iX:=by simp;omega
 go_enter func89,ntmps89;go_wp2_with fail
 rw[u.out,t.out];refine(zAd _ _ _ oM oM oM oM).mono ?_;rintro e T ⟨rfl,nq,rfl⟩;clear M P R S;go_wp2_with fail
 go_region_with ((go_at_call 122;refine(zBk _ _ r _ A B I L).mono ?_;rintro e T ⟨rfl,s⟩;obtain⟨F,hf⟩:=zQE s;have hz:=bsz (k:=w.heap.size) s sM))
 all_goals
  go_wp2;refine bodyPost_ret (v:=uX #[gX #[O J (Wnum.oN (hX r)),O J (Wnum.oD (hX r))],Y (Wnum.oB (hX r))]) (by simp[results,results89,go_sem,F]) rfl ⟨rfl,?_⟩;exact clA
theorem zK7(n d:Int)(w:wW)(c:-9223372036854775807<=n)(f:n<=9223372036854775807)(g:-9223372036854775807<=d)(i:d <= -1) :
  CR 89 #[O J n,O J d] w (uX #[gX #[O J (Wnum.oN (hX (Rat.divInt (-n) (-d)))),O J (Wnum.oD (hX (Rat.divInt (-n) (-d))))],Y (Wnum.oB (hX (Rat.divInt (-n) (-d))))]) :=
 make_neg' n d (-n) (-d) w (rfl:-n=-n) (rfl:-d=-d) c f g i oM oM oM oM
theorem zHr(n:Int)(w:wW)(c:-9223372036854775807<=n)(d:n<=9223372036854775807) :
  CR 89 #[O J n,O J 0] w (uX #[gX #[O J 0,O J 0],Y jX]):=by
 have f:(n == -9223372036854775808)=jX:=beq_eq_false_iff_ne.2 oM;go_enter func89,ntmps89;go_wp2;refine bodyPost_ret (v:=uX #[gX #[O J 0,O J 0],Y jX]) (by simp[results,results89,go_sem]) rfl ⟨rfl,?_⟩;exact clA
theorem zEJ(n d:Int)(w:wW)(c:-9223372036854775807<=n)(f:n<=9223372036854775807)(g:-9223372036854775807<=d)(i:d<=9223372036854775807) :
  CR 89 #[O J n,O J d] w (uX #[gX #[O J (Wnum.oN (Wnum.mk n d)),O J (Wnum.oD (Wnum.mk n d))],Y (Wnum.oB (Wnum.mk n d))]):=by
 rcases Int.lt_trichotomy d 0 with h|h|h
 ·rw[Wnum.mk_pos (show d≠0 by omega),<-Rat.neg_divInt_neg];exact zK7 n d w c f g oM
 ·subst h;rw[Wnum.mk_zero];exact zHr n w c f
 ·rw[Wnum.mk_pos (show d≠0 by omega)];exact zL1 n d w c f oM i
end Go.Proofs.YthcblmpncpcfkaaGreatDoor
namespace Go.Proofs.YthcblmpncpcfkaaGreatDoor.Wnum
def minusB(s:ByteArray):Bool:=kX (0<s.size/\bt s 0=45)
def body(s:ByteArray):ByteArray:=if minusB s=iX then s.extract 1 s.size else s
def sgnd(b:Bool)(n:Int):Int:=if b=iX then -n else n
def rdO(s:ByteArray):Option Rat:=if fB (body s)=iX then mk (sgnd (minusB s) (fN (body s))) (fD (body s))else fX
def aOf(s:ByteArray):Nat:=if minusB s=iX then 1 else 0
theorem body_facts(s:ByteArray):(body s).size=s.size-aOf s/\(∀i,bt (body s) i=bt s (aOf s+i))/\aOf s<=s.size:=by
 unfold body aOf;cases h:minusB s with
 |true =>
  have:=(of_decide_eq_true h).1;obtain⟨c,d⟩:=sub_facts (t:=s) (p:=1) oM;exact⟨c,d,by show 1<=s.size;omega⟩
 |false=>exact⟨rfl,λi=>by show bt s i=bt s (0+i);rw[eY],hZ _⟩
theorem f_bd(t:ByteArray):0<=fN t/\fN t<=1000000000001000000/\0<=fD t/\fD t<=1000000000000000000:=by
 cases d:fB t with
 |false=>rw[(f_false d).1,(f_false d).2];omega
 |true =>
  cases f:dB t 0 with
  |false=>rw[f_none f]at d;cases d
  |true =>
   obtain⟨b1,b2,b3⟩:=dB_bd f;by_cases e:dk t 0=t.size
   ·rw[(f_whole f e).2.1,(f_whole f e).2.2];omega
   ·by_cases c:fC t=46
    ·obtain⟨j,g,y⟩:=f_point f e c;rw[j]at d;have o:=d;unfold plB at o;simp only[jZ,decide_eq_true_iff]at o;obtain⟨⟨⟨A,B⟩,M⟩,C⟩:=o;have u:=say_small (s:=fS t) (i:=0) (dk (fS t) 0) (dk_all (fS t) 0);have D:=tenP_le6 (k:=(fS t).size) A;have R:=tenP_pos (fS t).size;have P:dv (fS t) 0<tenP (fS t).size:=by unfold dv;rw[C]at u ⊢;exact u
     have N:=zDs (fS t) 0;rw[g,y,(pl_true d).1,(pl_true d).2];have I:0<=dv t 0*tenP (fS t).size:=xY b2 oM;have L:dv t 0*tenP (fS t).size<=1000000000000*1000000:=yY B D oM oM;omega
    ·by_cases q:fC t=47
     ·obtain⟨j,g⟩:=f_over f e q;have hd:dB (fS t) 0=iX:=by rw[j,jZ]at d;exact d.1
      obtain⟨E,F,H⟩:=dB_bd hd;rw[(g d).1,(g d).2];omega
     ·rw[f_other f e c q]at d;cases d
end Go.Proofs.YthcblmpncpcfkaaGreatDoor.Wnum
namespace Go.Proofs.YthcblmpncpcfkaaGreatDoor
open Tryz
open Go.RowKit
variable {ka kb:Nat}{k p:Int}{x:List UInt8}{W:wW}
theorem zNc(s:ByteArray)(h:0<s.size):((s.extract 0 1).toList == [(45:UInt8)])=kX (Wnum.bt s 0=45):=by
 rw[ByteArray.toList_eq];obtain⟨⟨l⟩⟩:=s;cases l with
 |nil=>exact absurd h (Nat.lt_irrefl 0)
 |cons b l =>
  have e:((sZ ⟨b::l⟩).extract 0 1).data.toList=[b]:=sM;rw[e];have d:Wnum.bt (sZ ⟨b::l⟩) 0=(b.toNat:Int):=rfl;rw[d];by_cases c:b=45
  ·subst c;rfl
  ·have f:([b] == [(45:UInt8)])=jX:=by simp[c]
   have g:¬((b.toNat:Nat):Int)=45:=λx=>c (UInt8.toNat_inj.1 (by
     have:b.toNat=45:=oM;rw[this];rfl))
   rw[f,decide_eq_false g]
theorem zOC(s:ByteArray)(w:wW)(i:s.size<=9223372036854775807) :
  cW prog 50 #[V s,V ⟨#[45]⟩] w λe w'=>e=rX (uX #[V (Wnum.body s),Y (Wnum.minusB s)])/\w=w':=by
 by_cases d:0<s.size
 ·have g:=zNc s d;by_cases c:Wnum.bt s 0=45
  ·have m:Wnum.minusB s=iX:=decide_eq_true ⟨d,c⟩;have e:Wnum.body s=s.extract 1 s.size:=by unfold Wnum.body;rw[m];rfl
   rw[m,e];rw[decide_eq_true c]at g;have f:(1:Int)<=(s.size:Int):=oM;clear m e c;go_enter func50,ntmps50;go_wp2;go_ret2
   exact⟨rfl,rfl⟩
  ·have m:Wnum.minusB s=jX:=decide_eq_false (λx=>c x.2);have e:Wnum.body s=s:=by unfold Wnum.body;rw[m];rfl
   rw[m,e];rw[decide_eq_false c]at g;have f:(1:Int)<=(s.size:Int):=oM;clear m e c;go_enter func50,ntmps50;go_wp2;go_ret2
   exact⟨rfl,rfl⟩
 ·have m:Wnum.minusB s=jX:=decide_eq_false (λx=>d x.1);have e:Wnum.body s=s:=by unfold Wnum.body;rw[m];rfl
  rw[m,e];have f:kX ((1:Int)<=(s.size:Int))=jX:=decide_eq_false oM;clear m e;go_enter func50,ntmps50;go_wp2;go_ret2
  exact⟨rfl,rfl⟩
theorem zCh(s:ByteArray)(w:wW)(I:s.size<=9223372036854775807) :
  CR 54 #[V s] w (uX #[gX #[O J (Wnum.oN (Wnum.rdO s)),O J (Wnum.oD (Wnum.rdO s))],Y (Wnum.oB (Wnum.rdO s))]):=by
 have C:=λw=>zOC s w I
 have g:(Wnum.body s).size<=9223372036854775807:=by have:=(Wnum.body_facts s).1;omega
 have R:=λw=>zBQ (Wnum.body s) w g
 obtain⟨b1,b2,b3,E⟩:=Wnum.f_bd (Wnum.body s);cases f:Wnum.fB (Wnum.body s)with
 |false =>
  have e:Wnum.rdO s=fX:=by unfold Wnum.rdO;rw[f];rfl
  rw[e];rw[f,(Wnum.f_false f).1,(Wnum.f_false f).2]at R;clear e f b1 b2 b3 E g;generalize Wnum.body s=t at*;generalize Wnum.minusB s=m at*;go_enter func54,ntmps54;go_wp2_with fail
  refine(C _).mono ?_;rintro e i ⟨rfl,rfl⟩;go_wp2_with fail
  refine(R _).mono ?_;rintro e i ⟨rfl,D,rfl⟩;go_wp2;refine bodyPost_ret (v:=uX #[gX #[O J 0,O J 0],Y jX]) (by simp[results,results54,go_sem]) rfl ⟨rfl,?_⟩;exact clA
 |true =>
  have e:Wnum.rdO s=Wnum.mk (Wnum.sgnd (Wnum.minusB s) (Wnum.fN (Wnum.body s))) (Wnum.fD (Wnum.body s)):=by unfold Wnum.rdO;rw[f];rfl
  rw[e];rw[f]at R;clear e f g;generalize Wnum.fN (Wnum.body s)=n at*;generalize Wnum.fD (Wnum.body s)=d at*;generalize Wnum.body s=t at*;cases q:Wnum.minusB s with
  |false =>
   rw[q]at C;have M:=λw=>zEJ n d w oM oM oM oM
   rw[show Wnum.sgnd jX n=n from rfl];generalize Wnum.mk n d=o at*;clear q;go_enter func54,ntmps54;go_wp2_with fail
   refine(C _).mono ?_;rintro e i ⟨rfl,rfl⟩;go_wp2_with fail
   refine(R _).mono ?_;rintro e i ⟨rfl,D,rfl⟩;go_wp2_with fail
   refine(M _).mono ?_;rintro e j ⟨rfl,c⟩;have B:At j w.heap.size (O J 0) (O J 0):=At.below c (At.drewN (At.new w _ rfl _ _) _);have A:bL w j:=QA (Q9 ((bZ _ w).alloc (cZ _) _) _) c;obtain⟨u,y,F,H⟩:=B;go_wp2;refine bodyPost_ret (v:=uX #[gX #[O J (Wnum.oN o),O J (Wnum.oD o)],Y (Wnum.oB o)]) (by simp[results,results54,go_sem,u,y]) rfl ⟨rfl,?_⟩;exact zD8 A oM _ _
  |true =>
   rw[q]at C;have M:=λw=>zEJ (-n) d w oM oM oM oM
   rw[show Wnum.sgnd iX n=-n from rfl];generalize Wnum.mk (-n) d=o at*;clear q;go_enter func54,ntmps54;go_wp2_with fail
   refine(C _).mono ?_;rintro e i ⟨rfl,rfl⟩;go_wp2_with fail
   refine(R _).mono ?_;rintro e i ⟨rfl,D,rfl⟩;go_wp2_with fail
   refine(M _).mono ?_;rintro e j ⟨rfl,c⟩;have B:At j w.heap.size (O J 0) (O J 0):=At.below c (At.drewN (At.new w _ rfl _ _) _);have A:bL w j:=QA (Q9 ((bZ _ w).alloc (cZ _) _) _) c;obtain⟨u,y,F,H⟩:=B;go_wp2;refine bodyPost_ret (v:=uX #[gX #[O J (Wnum.oN o),O J (Wnum.oD o)],Y (Wnum.oB o)]) (by simp[results,results54,go_sem,u,y]) rfl ⟨rfl,?_⟩;exact zD8 A oM _ _
def fNames:List (List UInt8):=[[],[35,68,73,86,47,48,33],[35,86,65,76,85,69,33],[35,82,69,70,33],[35,78,85,77,33],[35,78,47,65],[35,67,73,82,67,76,69,33],[35,76,79,78,71,33],[35,65,82,71,33]]
def fltR:List vW:=fNames.map λx=>V ⟨x.toArray⟩
def FltAt(w:wW):Prop:=w.rangeAt 0 0 fltR
theorem FltAt.below{w w':wW}(h:FltAt w)(c:bL w w'):FltAt w':=λj v d=>QB c (h j v d)
theorem zKN:∀(j:Nat)(h:j<fNames.length)(w:wW),(Instr.index 168 (gX fltR.toArray) (O J (j:Int))).run prog w=.ok (V ⟨(fNames[j]).toArray⟩) w
 |0,_,w=>by kernel_rfl
 |1,_,w=>by kernel_rfl
 |2,_,w=>by kernel_rfl
 |3,_,w=>by kernel_rfl
 |4,_,w=>by kernel_rfl
 |5,_,w=>by kernel_rfl
 |6,_,w=>by kernel_rfl
 |7,_,w=>by kernel_rfl
 |8,_,w=>by kernel_rfl
 |j+9,h,w=>absurd h (by show¬j+9<9;omega)
def fi(s:List UInt8):Nat->List (List UInt8)->Nat
 |_,[]=>0
 |j,n::r=>if n=s then j else fi s (j+1) r
theorem zAw(s:ByteArray)(w:wW)(t:FltAt w):cW prog 58 #[V s] w λe w'=>e=rX (O J (fi s.toList 0 fNames:Nat))/\w=w':=by
 obtain⟨R,i⟩:=xV (fi s.toList 0 fNames)
 have q:hH (R=fi s.toList 0 (fNames.drop 0)):=i.symm;rw[i];clear i;have g:World.rangeAt w 0 0 fltR:=t;go_enter func58,ntmps58;go_upto_region 1 with fail
 go_wp2_with ((with_reducible refine wpList_load_mid (cs:=fltR) ?_ 168 (.global 0) ?_ 0 0 ?_ _ g underlying168 ?_ ?_ ?_);rfl;rfl;rfl;rfl;kernel_rfl)
 go_loopg [6] 9 (λgk x wr=>∃j:Nat,x=O J j/\gk=9-j/\j<=9/\hH (R=fi s.toList j (fNames.drop j))/\wr=w)
 case atStart=>exact⟨0,rfl,rfl,hZ _,q,rfl⟩
 case round =>
  obtain⟨j,rfl,A,B,c,rfl⟩:=hrel;by_cases d:j<9
  ·have o:(j:Int)<9:=oM;have u:=zKN j d;have hd:=List.drop_eq_getElem_cons (l:=fNames) d;generalize fNames[j]=x at*;rw[hd]at c;clear hd;by_cases f:x=s.toList
   ·have E:hH (R=j):=by show _=_;rw[c.out,fi,if_pos f]
    subst f;clear c;go_wp2;go_ret;exact⟨by rw[E.out];rfl,rfl⟩
   ·have y:(x == s.toList)=jX:=by simp[f]
    have E:hH (R=fi s.toList (j+1) (fNames.drop (j+1))):=by show _=_;rw[c.out,fi,if_neg f]
    clear c;go_wp2_with fail
    go_roundg (9-(j+1))
    case rel=>exact⟨j+1,sM,rfl,d,E,by first|trivial|rfl⟩
    case measure=>omega
  ·have o:¬(j:Int)<9:=oM;have E:hH (R=0):=by
    show _=_
    rw[c.out,List.drop_eq_nil_of_le (by show 9<=j;omega)];rfl
   clear c;go_wp2;go_ret;exact⟨by rw[E.out];rfl,rfl⟩
theorem zA8(s:ByteArray)(w:wW)(c:¬s.toList=[84,82,85,69])(f:¬s.toList=[70,65,76,83,69]):cW prog 56 #[V s] w λe w'=>e=rX (uX #[Y jX,Y jX])/\w=w':=by
 have d:(s.toList == [84,82,85,69])=jX:=by simp[c]
 have g:(s.toList == [70,65,76,83,69])=jX:=by simp[f]
 go_enter func56,ntmps56;go_wp2;go_ret2
 exact⟨rfl,rfl⟩
theorem zDi(s:ByteArray)(w:wW)(c:0<s.size)(f:((s.extract 0 1).toList == [39])=jX) :
  cW prog 50 #[V s,V ⟨#[39]⟩] w λe w'=>e=rX (uX #[V s,Y jX])/\w=w':=by
 have d:(1:Int)<=(s.size:Int):=oM;go_enter func50,ntmps50;go_wp2;go_ret2
 exact⟨rfl,rfl⟩
theorem zLP(s:ByteArray)(c:Nat)(w:wW)(T:FltAt w)(D:0<s.size)(hs:s.size<=1024)(H:((s.extract 0 1).toList == [39])=jX)(F:Wnum.rdO s=fX)(R:¬s.toList=[84,82,85,69])(S:¬s.toList=[70,65,76,83,69])(E:fi s.toList 0 fNames=c)(X:1<=c)(aa:c<=8) :
  CR 37 #[V s] w (vlV ⟨4,0,0,⟨#[]⟩,jX,c⟩):=by
 have ac:s.toList.isEmpty=jX:=zDF (λe=>by subst e;exact absurd D dM);have L:=λw=>zDi s w D H
 have j:=λw=>zCh s w oM
 rw[F]at j;have M:=λw=>zA8 s w R S
 have B:=λw h=>zAw s w h
 rw[E]at B;have o:=λw=>zA6 (c:Int) w
 have C:Jr (c:Int)=⟨4,0,0,⟨#[]⟩,jX,c⟩:=by
  unfold Jr Wv.flt;rw[decide_eq_true oM,decide_eq_true oM];rfl
 rw[C]at o;clear C H F E;simp only[vlV,vl6]at o;have P:Wnum.oB (fX:Option Rat)=jX:=rfl;have en:Wnum.oN (fX:Option Rat)=0:=rfl;have N:Wnum.oD (fX:Option Rat)=0:=rfl;rw[P,en,N]at j;have ab:((c:Int) == 0)=jX:=by rw[beq_eq_false_iff_ne];omega
 have I:=vlz w;have f:=QI (bZ _ w) (Z zV0 64);have i:=T.below f;go_enter func37,ntmps37;go_wp2_with fail
 refine(L _).mono ?_;rintro e w1 ⟨rfl,rfl⟩;go_wp2_with fail
 refine(j _).mono ?_;rintro e w2 ⟨rfl,g⟩;have A:=AtL.below g I;have q:=QA f g;have u:=i.below g;clear I f i g;go_wp2_with fail
 refine(M _).mono ?_;rintro e w3 ⟨rfl,rfl⟩;have y:=u.below ((bZ _ _).alloc (cZ _) (Z #[O J 0,O J 0] 62));go_wp2_with fail
 refine(B _ y).mono ?_;rintro e w3 ⟨rfl,rfl⟩;go_wp2_with fail
 refine(o _).mono ?_;rintro e w4 ⟨rfl,g⟩;have d:=AtL.below g (AtL.alloc A _);have t:=QA (QI q _) g;obtain⟨c0,c1,c2,c3,c4,c5⟩:=d.f6;have g0:=d.2.2 0 dM;have g1:=d.2.2 1 dM;have g2:=d.2.2 2 dM;have g3:=d.2.2 3 dM;have g4:=d.2.2 4 dM;have g5:=d.2.2 5 dM;go_wp2;refine bodyPost_ret (v:=vlV ⟨4,0,0,⟨#[]⟩,jX,c⟩) (by simp[results,results37,go_sem,vlV,vl6, *]) rfl ⟨rfl,?_⟩;exact(clB t)
def Vp(t:Wlx.TV):Option Wt.Vl :=
 if t.k=1 then(if Wnum.oB (Wnum.rdO ⟨t.t.toArray⟩)=iX then hX (Vx (Wnum.oN (Wnum.rdO ⟨t.t.toArray⟩)) (Wnum.oD (Wnum.rdO ⟨t.t.toArray⟩)))else fX)
 else if t.k=2 then(if t.t.length<=256 then hX (VU ⟨t.t.toArray⟩)else fX)
 else if t.k=4 then hX ⟨4,0,0,⟨#[]⟩,jX,(fi t.t 0 fNames:Nat)⟩
 else fX
def Qe(t:Wlx.TV):Prop:=t.t.length<=1024/\(t.k=4->∃i,∃h:i<9,1<=i/\t.t=fNames[i]'h)
def zBp(t:Wlx.TV)(e:Ending):Prop:=∃v ok,e=rX (uX #[vlV v,Y ok])/\Vp t=if ok then hX v else fX
theorem J5(b:UInt8)(l:List UInt8)(c:Nat)(w:wW)(q:FltAt w)(u:l.length<1024)(s:(b == 39)=jX)(t:Wnum.rdO ⟨(b::l).toArray⟩=fX)(j:¬b::l=[84,82,85,69])(o:¬b::l=[70,65,76,83,69])(g:fi (b::l) 0 fNames=c)(d:1<=c)(f:c<=8) :
  CR 37 #[V ⟨(b::l).toArray⟩] w (vlV ⟨4,0,0,⟨#[]⟩,jX,((fi (b::l) 0 fNames:Nat):Int)⟩):=by
 have e:(⟨(b::l).toArray⟩:ByteArray).toList=b::l:=by rw[ByteArray.toList_eq]
 have i:((⟨(b::l).toArray⟩:ByteArray).extract 0 1).toList=[b]:=by rw[ByteArray.toList_eq];simp
 rw[g];exact zLP ⟨(b::l).toArray⟩ c w q (by show 0<(b::l).length;simp) (by show(b::l).length<=1024;simp;omega) (by rw[i];simpa using s) t (by rw[e];exact j) (by rw[e];exact o) (by rw[e];exact g) d f
theorem zHe:∀(i:Nat)(h:i<9),1<=i->∀(w:wW),FltAt w->CR 37 #[V ⟨(fNames[i]'h).toArray⟩] w (vlV ⟨4,0,0,⟨#[]⟩,jX,((fi (fNames[i]'h) 0 fNames:Nat):Int)⟩)
 |0,_,h,_,_=>absurd h dM
 |1,_,_,w,hF=>J5 35 [68,73,86,47,48,33] 1 w hF dM dM (by decide +kernel) dM dM dM dM dM
 |2,_,_,w,hF=>J5 35 [86,65,76,85,69,33] 2 w hF dM dM (by decide +kernel) dM dM dM dM dM
 |3,_,_,w,hF=>J5 35 [82,69,70,33] 3 w hF dM dM (by decide +kernel) dM dM dM dM dM
 |4,_,_,w,hF=>J5 35 [78,85,77,33] 4 w hF dM dM (by decide +kernel) dM dM dM dM dM
 |5,_,_,w,hF=>J5 35 [78,47,65] 5 w hF dM dM (by decide +kernel) dM dM dM dM dM
 |6,_,_,w,hF=>J5 35 [67,73,82,67,76,69,33] 6 w hF dM dM (by decide +kernel) dM dM dM dM dM
 |7,_,_,w,hF=>J5 35 [76,79,78,71,33] 7 w hF dM dM (by decide +kernel) dM dM dM dM dM
 |8,_,_,w,hF=>J5 35 [65,82,71,33] 8 w hF dM dM (by decide +kernel) dM dM dM dM dM
 |j+9,h,_,_,_=>absurd h oM
theorem zNC(s:ByteArray):(-9223372036854775808<=Wnum.oN (Wnum.rdO s)/\Wnum.oN (Wnum.rdO s)<=9223372036854775807)/\(-9223372036854775808<=Wnum.oD (Wnum.rdO s)/\Wnum.oD (Wnum.rdO s)<=9223372036854775807):=by
 cases Wnum.rdO s with
 |none=>exact⟨⟨dM,dM⟩,dM,dM⟩
 |some r =>
  simp only[Wnum.oN,Wnum.oD];by_cases h:Wnum.okQ r=iX
  ·rw[if_pos h,if_pos h];have:=of_decide_eq_true h;omega
  ·rw[if_neg h,if_neg h];omega
abbrev LvS(ka kb:Nat)(k:Int)(x:List UInt8)(p:Int)(W:wW):Prop :=
 W.cell? ⟨ka,0,fX⟩=hX (O J k)/\W.cell? ⟨ka,1,fX⟩=hX (V ⟨x.toArray⟩)/\W.cell? ⟨ka,2,fX⟩=hX (O J p)/\W.frozen? ⟨kb,0,fX⟩=jX/\W.frozen? ⟨kb,1,fX⟩=jX/\W.frozen? ⟨kb,2,fX⟩=jX/\W.frozen? ⟨kb,3,fX⟩=jX/\W.frozen? ⟨kb,4,fX⟩=jX/\W.frozen? ⟨kb,5,fX⟩=jX
theorem zHs{f:List vW}(d:AtL W ka [O J k,V ⟨x.toArray⟩,O J p])(c:AtL W kb f)(g:f.length=6):LvS ka kb k x p W :=
 ⟨d.2.1 0 _ rfl,d.2.1 1 _ rfl,d.2.1 2 _ rfl,c.2.2 0 oM,c.2.2 1 oM,c.2.2 2 oM,c.2.2 3 oM,c.2.2 4 oM,c.2.2 5 oM⟩
theorem zBE(h:LvS ka kb k x p W)(c:kb≠ka)(j:Nat)(u:vW):LvS ka kb k x p (W.setCell ⟨kb,j,fX⟩ u):=by
 obtain⟨s,t,y,d,f,g,i,o,q⟩:=h;refine⟨?_,?_,?_,?_,?_,?_,?_,?_,?_⟩;any_goals rw[iZ _ _ _ _ (by simpa using c)];assumption
 all_goals rw[World.frozen?_setCell];assumption
theorem zKa(t:Wlx.TV)(w:wW)(hF:FltAt w)(ht:Qe t):cW prog 257 #[tkV t] w λe w'=>zBp t e/\bL w w':=by
 obtain⟨k,x,p⟩:=t;obtain⟨hx,h4⟩:=ht;simp only at hx h4;have ad:(⟨x.toArray⟩:ByteArray).size=x.length:=rfl;show cW _ _ #[gX #[O J k,V ⟨x.toArray⟩,O J p]] _ _
 have pA:=(AtL.new0 w 202 [O J k,V ⟨x.toArray⟩,O J p]).alloc (Z zV0 64);have L:=vlz (w.alloc (Z #[O J k,V ⟨x.toArray⟩,O J p] 202));simp only[World.size_alloc]at L;have j:=QI (QI (bZ _ w) (Z #[O J k,V ⟨x.toArray⟩,O J p] 202)) (Z zV0 64);have aa:=hF.below j;by_cases h1:k=1
 ·subst h1;have u:=λw=>zCh ⟨x.toArray⟩ w oM
  have bd:∀q:Option Rat,q=Wnum.rdO ⟨x.toArray⟩->(-9223372036854775808<=Wnum.oN q/\Wnum.oN q<=9223372036854775807)/\(-9223372036854775808<=Wnum.oD q/\Wnum.oD q<=9223372036854775807):=by
   intro q hq;subst hq;exact zNC _
  obtain⟨⟨b1,b2⟩,b3,b4⟩:=bd _ rfl;have C2:=λw=>zDA (Wnum.oN (Wnum.rdO ⟨x.toArray⟩)) (Wnum.oD (Wnum.rdO ⟨x.toArray⟩)) w b1 b2 b3 b4
  have I:zBp ⟨1,x,p⟩ (rX (uX #[vlV (Vx (Wnum.oN (Wnum.rdO ⟨x.toArray⟩)) (Wnum.oD (Wnum.rdO ⟨x.toArray⟩))),Y (Wnum.oB (Wnum.rdO ⟨x.toArray⟩))])):=by
   refine⟨_,_,rfl,?_⟩;unfold Vp;rw[if_pos rfl]
  generalize Vx (Wnum.oN (Wnum.rdO ⟨x.toArray⟩)) (Wnum.oD (Wnum.rdO ⟨x.toArray⟩))=y at*;generalize Wnum.oN (Wnum.rdO ⟨x.toArray⟩)=qn at*;generalize Wnum.oD (Wnum.rdO ⟨x.toArray⟩)=qd at*;generalize Wnum.oB (Wnum.rdO ⟨x.toArray⟩)=qb at*;clear bd b1 b2 b3 b4;obtain⟨v1,M,N,P,R,S⟩:=y;simp only[vlV,vl6]at C2;go_enter func257,ntmps257;go_wp2_with fail
  refine(u _).mono ?_;rintro e X ⟨rfl,f⟩;have g:=AtL.below f L;have s:=QA j f;clear pA L j f;go_wp2_with fail
  refine(C2 _).mono ?_;rintro e w2 ⟨rfl,f⟩;have d:=AtL.below f (AtL.alloc g _);have o:=QA (QI s _) f;clear g s f;obtain⟨A,B,C,D,E,F⟩:=d.f6;have g0:=d.2.2 0 dM;have g1:=d.2.2 1 dM;have g2:=d.2.2 2 dM;have g3:=d.2.2 3 dM;have g4:=d.2.2 4 dM;have g5:=d.2.2 5 dM;go_wp2;refine bodyPost_ret (v:=uX #[vlV ⟨v1,M,N,P,R,S⟩,Y qb]) (by simp[results,results257,go_sem,vlV,vl6,A,B,C,D,E,F]) rfl ⟨I,?_⟩;exact(clB o)
 by_cases h2:k=2
 ·subst h2;have u:=λw=>zAf ⟨x.toArray⟩ w oM
  have I:zBp ⟨2,x,p⟩ (rX (uX #[vlV (VU ⟨x.toArray⟩),Y (kX ((x.length:Int)<=256))])):=by
   refine⟨_,_,rfl,?_⟩;unfold Vp;rw[if_neg h1,if_pos rfl];by_cases hl:x.length<=256
   ·simp only;rw[if_pos hl,decide_eq_true oM];rfl
   ·simp only;rw[if_neg hl,decide_eq_false oM];rfl
  generalize VU ⟨x.toArray⟩=y at*;obtain⟨v1,M,N,P,R,S⟩:=y;simp only[vlV,vl6]at u;have hS:=zHs pA L rfl;go_enter func257,ntmps257;go_upto_region 6 with fail
  go_region_held3 (LvS w.heap.size (w.heap.size+1) 2 x p)
   (with_reducible first|exact hS|assumption|exact zHs ac g rfl|exact(zBE (zBE (zBE (zBE (zBE (zBE (by assumption) oM _ _) oM _ _) oM _ _) oM _ _) oM _ _) oM _ _)|exact zHs (AtL.drew pA) (AtL.drew L) rfl)
   (first|(go_at_call 53;refine(u _).mono ?_;rintro e X ⟨rfl,f⟩;have ac:=AtL.below f (AtL.drew pA);have g:=AtL.below f (AtL.drew L);obtain⟨A,B,C,D,E,F⟩:=g.f6;have s:=QA j.drew f))
  all_goals
   have d:AtL ((((((X.setCell ⟨w.heap.size+1,0,fX⟩ (O J v1)).setCell ⟨w.heap.size+1,1,fX⟩ (O J M)).setCell ⟨w.heap.size+1,2,fX⟩ (O J N)).setCell ⟨w.heap.size+1,3,fX⟩ (V P)).setCell ⟨w.heap.size+1,4,fX⟩ (Y R)).setCell ⟨w.heap.size+1,5,fX⟩ (O J S)) (w.heap.size+1) [O J v1,O J M,O J N,V P,Y R,O J S]:=(((((g.set 0 _).set 1 _).set 2 _).set 3 _).set 4 _).set 5 _;have o:bL w ((((((X.setCell ⟨w.heap.size+1,0,fX⟩ (O J v1)).setCell ⟨w.heap.size+1,1,fX⟩ (O J M)).setCell ⟨w.heap.size+1,2,fX⟩ (O J N)).setCell ⟨w.heap.size+1,3,fX⟩ (V P)).setCell ⟨w.heap.size+1,4,fX⟩ (Y R)).setCell ⟨w.heap.size+1,5,fX⟩ (O J S)):=(clB s)
   generalize((((((X.setCell ⟨w.heap.size+1,0,fX⟩ (O J v1)).setCell ⟨w.heap.size+1,1,fX⟩ (O J M)).setCell ⟨w.heap.size+1,2,fX⟩ (O J N)).setCell ⟨w.heap.size+1,3,fX⟩ (V P)).setCell ⟨w.heap.size+1,4,fX⟩ (Y R)).setCell ⟨w.heap.size+1,5,fX⟩ (O J S))=W2 at*;clear A B C D E F;obtain⟨A,B,C,D,E,F⟩:=d.f6;go_wp2;refine bodyPost_ret (v:=uX #[vlV ⟨v1,M,N,P,R,S⟩,Y (kX ((x.length:Int)<=256))]) (by simp[results,results257,go_sem,vlV,vl6,A,B,C,D,E,F]) rfl ⟨I,o⟩
 by_cases H:k=4
 ·subst H;obtain⟨i,hi,ab,T⟩:=h4 rfl;have u:=λw h=>zHe i hi ab w h
  rw[<-T]at u;clear T h4;have I:zBp ⟨4,x,p⟩ (rX (uX #[vlV ⟨4,0,0,⟨#[]⟩,jX,((fi x 0 fNames:Nat):Int)⟩,Y iX])):=⟨_,_,rfl,rfl⟩
  generalize((fi x 0 fNames:Nat):Int)=c at*;simp only[vlV,vl6]at u;go_enter func257,ntmps257;go_wp2_with fail
  refine(u _ aa).mono ?_;rintro e X ⟨rfl,f⟩;have d:=AtL.below f L;have o:=QA j f;obtain⟨A,B,C,D,E,F⟩:=d.f6;have g0:=d.2.2 0 dM;have g1:=d.2.2 1 dM;have g2:=d.2.2 2 dM;have g3:=d.2.2 3 dM;have g4:=d.2.2 4 dM;have g5:=d.2.2 5 dM;go_wp2;refine bodyPost_ret (v:=uX #[vlV ⟨4,0,0,⟨#[]⟩,jX,c⟩,Y iX]) (by simp[results,results257,go_sem,vlV,vl6,A,B,C,D,E,F]) rfl ⟨I,?_⟩;exact(clB o)
 have I:zBp ⟨k,x,p⟩ (rX (uX #[vlV ⟨0,0,0,⟨#[]⟩,jX,0⟩,Y jX])):=by
  refine⟨_,_,rfl,?_⟩;unfold Vp;rw[if_neg h1,if_neg h2,if_neg H];rfl
 have e1:(k == 1)=jX:=by simp[h1]
 have e2:(k == 2)=jX:=by simp[h2]
 have e4:(k == 4)=jX:=by simp[H]
 go_enter func257,ntmps257;go_wp2;refine bodyPost_ret (v:=uX #[vlV ⟨0,0,0,⟨#[]⟩,jX,0⟩,Y jX]) (by simp[results,results257,go_sem,vlV,vl6]) rfl ⟨I,?_⟩;exact clA
end Go.Proofs.YthcblmpncpcfkaaGreatDoor
namespace Wpl
def colT(n:Nat):List UInt8:=if n<26 then[UInt8.ofNat (65+n)]else[UInt8.ofNat (65+(n/26-1)),UInt8.ofNat (65+n%26)]
def colS(n:Int):List UInt8:=if inB n 256 then colT n.toNat else[]
theorem zMK(n:Nat):(colT n).length<=2:=by unfold colT;split <;> simp
theorem colS_len(n:Int):(colS n).length<=2:=by unfold colS;split;exact zMK _;simp
theorem dd_len(n:Nat)(h:n<=9223372036854775807):(Go.Lib.decDigits n).length<=21:=by
 have:=Go.Lib.itoa_length_le (n:Int) (by omega) (by omega);unfold Go.Lib.itoa at this;rw[if_neg (by omega),kZ]at this;exact this
end Wpl
namespace Go.Proofs.YthcblmpncpcfkaaGreatDoor
open Tryz
open Go.RowKit
theorem zGg:∀k:Fin 26,Utf8.encode ((((⟨#[65,66,67,68,69,70,71,72,73,74,75,76,77,78,79,80,81,82,83,84,85,86,87,88,89,90]⟩:ByteArray)[k.val]'(by have:=k.isLt;exact this)).toNat:Nat):Int)=⟨#[UInt8.ofNat (65+k.val)]⟩:=by decide +kernel
theorem zC0{k:Nat}(h:k<26)(h':k<(⟨#[65,66,67,68,69,70,71,72,73,74,75,76,77,78,79,80,81,82,83,84,85,86,87,88,89,90]⟩:ByteArray).size):Utf8.encode ((((⟨#[65,66,67,68,69,70,71,72,73,74,75,76,77,78,79,80,81,82,83,84,85,86,87,88,89,90]⟩:ByteArray)[k]'h').toNat:Nat):Int)=⟨#[UInt8.ofNat (65+k)]⟩:=zGg ⟨k,h⟩
theorem zAp(a b:List UInt8):((⟨a.toArray⟩:ByteArray)++(⟨b.toArray⟩:ByteArray))=⟨(a++b).toArray⟩:=by
 apply cY
 rw[ByteArray.data_append];simp
theorem zOE(c:UInt8)(b:List UInt8):((⟨#[c]⟩:ByteArray)++(⟨b.toArray⟩:ByteArray))=⟨(c::b).toArray⟩:=zAp [c] b
theorem zOM(n:Int)(w:wW):CR 270 #[O J n] w (V ⟨(Wpl.colS n).toArray⟩):=by
 have B:=λw=>zAv n 256 w
 cases h:Wpl.inB n 256 with
 |false =>
  have E:hH (Wpl.colS n=[]):=by show _=_;unfold Wpl.colS;rw[h];rfl
  rw[h]at B;clear h;go_enter func270,ntmps270;go_wp2_with fail
  refine(B _).mono ?_;rintro e I ⟨rfl,rfl⟩;go_wp2;go_ret;exact⟨by rw[E.out];rfl,clA⟩
 |true =>
  have F:=Wpl.inB_iff.1 h;have E:hH (Wpl.colS n=Wpl.colT n.toNat):=by show _=_;unfold Wpl.colS;rw[h];rfl
  rw[h]at B;clear h;obtain⟨m,rfl⟩:=tZ F.1;rw[kZ]at E;have P:m<256:=oM;go_enter func270,ntmps270;go_wp2_with fail
  refine(B _).mono ?_;rintro e I ⟨rfl,rfl⟩;go_wp2_with fail
  go_loopw [0,3] (λx y wr=>∃(k:Int)(l:List UInt8),x=O J k /\ -1<=k/\k<256/\y=V ⟨l.toArray⟩/\l.length<=2/\hH (Wpl.colT m=(if k<0 then[]else Wpl.colT k.toNat)++l/\(0<=k->l.length=0\/l.length=1/\k<26))/\wr=w) (λx _ _=>(intOf x+1).toNat)
  case atStart=>exact⟨m,[],rfl,oM,oM,rfl,sM,(⟨by rw[if_neg oM,kZ,List.append_nil],λ_=>Or.inl rfl⟩:Wpl.colT m=(if(m:Int)<0 then[]else Wpl.colT (m:Int).toNat)++[]/\_),rfl⟩
  case round =>
   obtain⟨k,l,rfl,C,i,rfl,N,f,rfl⟩:=hrel;by_cases A:0<=k
   ·obtain⟨j,rfl⟩:=tZ A;have c:j%26<26:=oM;obtain⟨o,q⟩:=f.out;rw[if_neg oM,kZ]at o;have s:=q oM;have D:l.length<=1:=oM;have g:hH (Wpl.colT m=(if(j:Int)/26-1<0 then[]else Wpl.colT ((j:Int)/26-1).toNat)++(UInt8.ofNat (65+j%26)::l)/\(0<=(j:Int)/26-1->(UInt8.ofNat (65+j%26)::l).length=0\/(UInt8.ofNat (65+j%26)::l).length=1/\(j:Int)/26-1<26)):=by
     refine(⟨?_,?_⟩:_/\_)
     ·rw[o];by_cases d:j<26
      ·rw[if_pos oM];unfold Wpl.colT;rw[if_pos d,Nat.mod_eq_of_lt d];rfl
      ·rw[if_neg oM];have e:((j:Int)/26-1).toNat=j/26-1:=oM;rw[e];unfold Wpl.colT;rw[if_neg d,if_pos oM];rfl
     ·intro h;right
      refine⟨?_,oM⟩;rcases s with u|⟨_,L⟩
      ·rw[dZ,u]
      ·omega
    clear f o q s;have M:(j:Int)<256:=i;go_wp2_with fail
    case isTrue =>
     rename_i H
     exfalso
     rw[zC0 c]at H;have:(⟨#[UInt8.ofNat (65+j%26)]⟩:ByteArray).size=1:=rfl;omega
    go_roundw
    case rel=>exact⟨(j:Int)/26-1,UInt8.ofNat (65+j%26)::l,rfl,oM,oM,by rw[zC0 c];exact congrArg V (zOE _ l),by simp;omega,g,trivial⟩
    case measure=>simp[intOf];omega
   ·have e:Wpl.colT m=l:=by have:=f.out.1;rw[if_pos oM]at this;exact this
    have t:hH (Wpl.colT m=l):=e;clear e f;go_wp2;go_ret;exact⟨by rw[E.out,t.out];rfl,bZ _ _⟩
open Go.Shelf Go.RowKit
def zBr:Go.Shelf.Ren:=⟨fun|171=>271|243=>272|246=>273|283=>274|284=>275|285=>276|286=>277|129=>69|317=>278|318=>279|319=>280|320=>281|337=>282|338=>283|n=>n,fun|3=>3|9=>9|2=>2|4=>4|171=>385|0=>0|53=>130|37=>282|5=>5|173=>387|212=>390|51=>128|20=>20|213=>391|46=>92|232=>392|233=>393|n=>n,fun|17=>6|18=>7|19=>8|n=>n⟩
theorem zFG:Go.Proofs.LaysM.n171 prog zBr:={
 mixed:=kR
 f129:=func69.trans (congrArg hX kR)
 f171:=func271.trans (congrArg hX kR)
 f243:=func272.trans (congrArg hX kR)
 f246:=func273.trans (congrArg hX kR)
 f283:=func274.trans (congrArg hX kR)
 f284:=func275.trans (congrArg hX kR)
 f285:=func276.trans (congrArg hX kR)
 f286:=func277.trans (congrArg hX kR)
 f317:=func278.trans (congrArg hX kR)
 f318:=func279.trans (congrArg hX kR)
 f319:=func280.trans (congrArg hX kR)
 f320:=func281.trans (congrArg hX kR)
 f337:=func282.trans (congrArg hX kR)
 f338:=func283.trans (congrArg hX kR)
 t0:=underlying0
 a0:=Tryz.isAgg0
 z0:=Tryz.sizeOf0
 v0:=Tryz.zeroValue0
 t2:=underlying2
 a2:=Tryz.isAgg2
 z2:=Tryz.sizeOf2
 v2:=Tryz.zeroValue2
 t3:=underlying3
 a3:=Tryz.isAgg3
 z3:=Tryz.sizeOf3
 v3:=Tryz.zeroValue3
 t4:=underlying4
 a4:=Tryz.isAgg4
 z4:=Tryz.sizeOf4
 v4:=Tryz.zeroValue4
 t5:=underlying5
 a5:=Tryz.isAgg5
 z5:=Tryz.sizeOf5
 v5:=Tryz.zeroValue5
 t9:=underlying9
 a9:=Tryz.isAgg9
 z9:=Tryz.sizeOf9
 v9:=Tryz.zeroValue9
 t20:=underlying20
 a20:=Tryz.isAgg20
 z20:=Tryz.sizeOf20
 v20:=Tryz.zeroValue20
 t37:=underlying282
 a37:=Tryz.isAgg282
 z37:=Tryz.sizeOf282
 v37:=Tryz.zeroValue282
 t46:=underlying92
 a46:=Tryz.isAgg92
 z46:=Tryz.sizeOf92
 v46:=Tryz.zeroValue92
 t51:=underlying128
 a51:=Tryz.isAgg128
 z51:=Tryz.sizeOf128
 v51:=Tryz.zeroValue128
 t53:=underlying130
 a53:=Tryz.isAgg130
 z53:=Tryz.sizeOf130
 v53:=Tryz.zeroValue130
 t171:=underlying385
 a171:=Tryz.isAgg385
 z171:=Tryz.sizeOf385
 v171:=Tryz.zeroValue385
 t173:=underlying387
 a173:=Tryz.isAgg387
 z173:=Tryz.sizeOf387
 v173:=Tryz.zeroValue387
 t212:=underlying390
 a212:=Tryz.isAgg390
 z212:=Tryz.sizeOf390
 v212:=Tryz.zeroValue390
 t213:=underlying391
 a213:=Tryz.isAgg391
 z213:=Tryz.sizeOf391
 t232:=underlying392
 a232:=Tryz.isAgg392
 z232:=Tryz.sizeOf392
 v232:=Tryz.zeroValue392
 t233:=underlying393
 a233:=Tryz.isAgg393
 z233:=Tryz.sizeOf393
 v233:=Tryz.zeroValue393
 g17:=kR
 g18:=kR
 g19:=kR
 i0:=kR
 i2:=kR
 i3:=kR
 i4:=kR
 i5:=kR
 i9:=kR
 i20:=kR
 i37:=kR
 i46:=kR
 i51:=kR
 i53:=kR
 i171:=kR
 i173:=kR
 i212:=kR
 i232:=kR
 i233:=kR
 m17:=kR
 m18:=kR
 m19:=by kernel_rfl}
theorem zE0 (n:Int) (w:wW) (d:-9223372036854775808<=n) (f:n<=9223372036854775807) (c:Lib.TabIs prog w "internal/strconv.uint64pow10" .u64 Lib.pow10Tab) :
  CR 271 #[O J n] w (V ⟨(Lib.itoa n).toArray⟩) :=
 (Any.strconv_Itoa zFG n d f w c).mono λe w' ⟨g,k,os,hw⟩=>⟨g,by rw[hw];exact Lib.below_grow _ w (cZ _) k os⟩
end Go.Proofs.YthcblmpncpcfkaaGreatDoor
namespace Wpl
def num(s t l r k:Int):Cl:=⟨s,t+k/(r-l+1),l+k%(r-l+1)⟩
end Wpl
namespace Go.Proofs.YthcblmpncpcfkaaGreatDoor
open Tryz
open Go.RowKit
theorem zEY{n:Int}(h:0<=n):Lib.itoa n=Lib.decDigits n.toNat:=by unfold Lib.itoa;rw[if_neg oM]
def fx(b:Bool):List UInt8:=if b then[36]else[]
theorem zDt(b:Bool)(w:wW):CR 269 #[Y b] w (V ⟨(fx b).toArray⟩):=by
 cases b
 ·go_enter func269,ntmps269;go_wp2;go_ret;exact⟨rfl,bZ _ _⟩
 ·go_enter func269,ntmps269;go_wp2;go_ret;exact⟨rfl,bZ _ _⟩
def cw(a:Wt.Rf):List UInt8:=fx a.fc++Wpl.colS a.c++fx a.fr++Lib.decDigits (a.r+1).toNat
theorem zN2(b:Bool):(fx b).length<=1:=by cases b <;> decide
theorem zDm (a:Wt.Rf) (w:wW) (C:0<=a.r) (D:a.r<65536) (g:Lib.TabIs prog w "internal/strconv.uint64pow10" .u64 Lib.pow10Tab) :
  CR 265 #[rfV a] w (V ⟨(cw a).toArray⟩):=by
 obtain⟨s,r,c,fr,i⟩:=a;simp only at C D;unfold cw;simp only;show cW _ _ #[gX #[V s,O J r,O J c,Y fr,Y i]] _ _
 have TB:=Lib.tabBelow_of_tabIs g;clear g;have A:=λw=>zDt i w
 have B:=λw=>zDt fr w
 have M:=zN2 i;have R:=zN2 fr;have N:=Wpl.colS_len c;have P:=Wpl.dd_len (r+1).toNat oM;have t:=λw=>zOM c w
 have q:=λw E=>zE0 (r+1) w oM oM E
 rw[zEY (show 0<=r+1 by omega)]at q;generalize fx i=u at*;generalize fx fr=v at*;generalize Wpl.colS c=x at*;generalize Lib.decDigits (r+1).toNat=y at*;have L:J.wrap (r+1)=r+1:=IntWalk.i64_in _ oM;have F:¬9223372036854775807<u.length+x.length:=oM;have H:¬9223372036854775807<u.length+x.length+v.length:=oM;have I:¬9223372036854775807<u.length+x.length+v.length+y.length:=oM;have j:=(AtL.new0 w 95 [V s,O J r,O J c,Y fr,Y i]).f5;have d:=QI (bZ _ w) (Z #[V s,O J r,O J c,Y fr,Y i] 95);go_enter func265,ntmps265;go_upto_region 1 with fail
 go_region_held3 (λW=>W.cell? ⟨w.heap.size,0,fX⟩=hX (V s)/\W.cell? ⟨w.heap.size,1,fX⟩=hX (O J r)/\W.cell? ⟨w.heap.size,2,fX⟩=hX (O J c)/\W.cell? ⟨w.heap.size,3,fX⟩=hX (Y fr)/\W.cell? ⟨w.heap.size,4,fX⟩=hX (Y i))
  (with_reducible first|exact j|assumption|exact zKG j|exact zCV f (by assumption))
  (first
  |(go_at_call 269;refine(A _).mono ?_;rintro e o ⟨rfl,f⟩;(with_reducible first|replace d:=QA d.drew f|replace d:=QA d f))
  |(go_at_call 269;refine(B _).mono ?_;rintro e o ⟨rfl,f⟩;(with_reducible first|replace d:=QA d.drew f|replace d:=QA d f))
  |(go_at_call 270;refine(t _).mono ?_;rintro e o ⟨rfl,f⟩;(with_reducible first|replace d:=QA d.drew f|replace d:=QA d f))
  |(go_at_call 271;refine(q _ ((TB.on (by with_reducible first|exact d|exact d.drew)).here)).mono ?_;rintro e o ⟨rfl,f⟩;(with_reducible first|replace d:=QA d.drew f|replace d:=QA d f)))
 all_goals
  go_wp2;go_ret;refine⟨?_,d⟩;refine congrArg (λx=>rX (V x)) ?_;rw[zAp,zAp,zAp]
end Go.Proofs.YthcblmpncpcfkaaGreatDoor
namespace Wpl
def isL(c:UInt8):Bool:=kX (65<=c.toNat/\c.toNat<=90)
def isG(c:UInt8):Bool:=kX (48<=c.toNat/\c.toNat<=57)
def rc:Nat->List UInt8->Nat×List UInt8
 |k,[]=>(k,[])
 |k,c::t=>if isL c=iX/\k<=256 then rc (k*26+(c.toNat-65)+1) t else(k,c::t)
def rd:Nat->List UInt8->Nat×List UInt8
 |k,[]=>(k,[])
 |k,c::t=>if isG c=iX/\k<=65536 then rd (k*10+(c.toNat-48)) t else(k,c::t)
def rr(l:List UInt8):Nat×List UInt8:=if l.head? = hX 48 then(0,l)else rd 0 l
def rdOk(l:List UInt8):Bool:=kX ((rr (rc 0 l).2).2=[]/\1<=(rr (rc 0 l).2).1/\(rr (rc 0 l).2).1<=65536/\1<=(rc 0 l).1/\(rc 0 l).1<=256)
def rdR(l:List UInt8):Int:=if rdOk l then((rr (rc 0 l).2).1:Int)-1 else 0
def rdC(l:List UInt8):Int:=if rdOk l then((rc 0 l).1:Int)-1 else 0
theorem rc_len(k:Nat)(l:List UInt8):(rc k l).2.length<=l.length:=by
 induction l generalizing k with
 |nil=>simp[rc]
 |cons c t d =>
  unfold rc;split
  ·have:=d (k*26+(c.toNat-65)+1);simp;omega
  ·simp
theorem rc_bd(k:Nat)(l:List UInt8)(h:k<=6682):(rc k l).1<=6682:=by
 induction l generalizing k with
 |nil=>simpa[rc]using h
 |cons c t g =>
  unfold rc;split
  ·rename_i f
   have d:=f.1;simp only[isL,decide_eq_true_eq]at d;exact g _ (by omega)
  ·exact h
theorem zNp(k:Nat)(l:List UInt8)(h:k<=655369):(rd k l).1<=655369:=by
 induction l generalizing k with
 |nil=>simpa[rd]using h
 |cons c t g =>
  unfold rd;split
  ·rename_i f
   have d:=f.1;simp only[isG,decide_eq_true_eq]at d;exact g _ (by omega)
  ·exact h
theorem rr_bd(l:List UInt8):(rr l).1<=655369:=by
 unfold rr;split
 ·simp
 ·exact zNp 0 l (by omega)
end Wpl
namespace Go.Proofs.YthcblmpncpcfkaaGreatDoor
open Tryz
open Go.RowKit
variable {w w' W:wW}{ts r us0:List Wlx.TV}{en:Int}{x z:Wt.Nd}{sl v:vW}{G:Nat->Prop}{n lo b m k:Nat}{op:Oper}{a:Act}{Q:Exit->Act->wW->Prop}{K:Act->wW->Prop}{e:Ending}
theorem zDM(c:UInt8)(t:List UInt8):uZ ⟨(c::t).toArray⟩ 1 (t.length+1)=⟨t.toArray⟩:=by
 apply cY
 simp[vZ]
theorem zJZ(c:UInt8):(0:Int)<=(c.toNat:Int)/\(c.toNat:Int)<=255:=by have:=c.toNat_lt;omega
theorem zFJ(s:List UInt8)(w:wW)(g:s.length<=9223372036854775807):cW prog 266 #[V ⟨s.toArray⟩] w λe w'=>e=rX (uX #[O J ((Wpl.rc 0 s).1:Nat),V ⟨(Wpl.rc 0 s).2.toArray⟩])/\w=w':=by
 go_enter func266,ntmps266;go_wp2;go_loopw [0,2] (λx y wr=>∃(l:List UInt8)(k:Nat),x=V ⟨l.toArray⟩/\y=O J k/\k<=6682/\l.length<=9223372036854775807/\hH (Wpl.rc 0 s=Wpl.rc k l)/\wr=w) (λx _ _=>match x with|V b=>b.size|_=>0)
 case atStart=>exact⟨s,0,rfl,rfl,oM,g,(rfl:Wpl.rc 0 s=Wpl.rc 0 s),rfl⟩
 case round =>
  obtain⟨l,k,rfl,rfl,u,f,d,rfl⟩:=hrel;cases l with
  |nil =>
   have E:hH (Wpl.rc 0 s=(k,[])):=d.out;go_wp2;go_ret2
   exact⟨by rw[E.out];rfl,rfl⟩
  |cons c t =>
   obtain⟨i,b1⟩:=zJZ c;simp only[dZ]at f;by_cases j:65<=(c.toNat:Int)
   ·by_cases o:(c.toNat:Int)<=90
    ·by_cases q:(k:Int)<=256
     ·have E:hH (Wpl.rc 0 s=Wpl.rc (k*26+(c.toNat-65)+1) t):=by
       show _=_;rw[d.out]
       conv=>lhs;unfold Wpl.rc
       rw[if_pos ⟨by simp[Wpl.isL];omega,oM⟩]
      clear d;go_wp2_with fail
      go_roundw
      case rel=>exact⟨t,k*26+(c.toNat-65)+1,congrArg V (zDM c t),congrArg (O J) (by show(k:Int)*26+((c.toNat:Nat)-65)+1=_;omega),oM,oM,E,trivial⟩
      case measure=>rw[zDM];simp[jY]
     ·have E:hH (Wpl.rc 0 s=(k,c::t)):=by
       show _=_;rw[d.out]
       conv=>lhs;unfold Wpl.rc
       rw[if_neg oM]
      clear d;go_wp2;go_ret2
      exact⟨by rw[E.out];rfl,rfl⟩
    ·have E:hH (Wpl.rc 0 s=(k,c::t)):=by
      show _=_;rw[d.out]
      conv=>lhs;unfold Wpl.rc
      rw[if_neg (by simp[Wpl.isL];omega)]
     clear d;go_wp2;go_ret2
     exact⟨by rw[E.out];rfl,rfl⟩
   ·have E:hH (Wpl.rc 0 s=(k,c::t)):=by
     show _=_;rw[d.out]
     conv=>lhs;unfold Wpl.rc
     rw[if_neg (by simp[Wpl.isL];omega)]
    clear d;go_wp2;go_ret2
    exact⟨by rw[E.out];rfl,rfl⟩
theorem zOh(c:UInt8)(t:List UInt8):((uZ ⟨(c::t).toArray⟩ 0 1).toList == [48])=kX (c=48):=by
 have e:uZ ⟨(c::t).toArray⟩ 0 1=⟨#[c]⟩:=by
  apply cY
  simp[vZ]
 rw[e];have d:(⟨#[c]⟩:ByteArray).toList=[c]:=by
  simp[ByteArray.toList,ByteArray.toList.loop,jY,vY]
 rw[d];by_cases h:c=48
 ·subst h;rfl
 ·rw[decide_eq_false h];simp[h]
theorem zEL(c:UInt8)(t:List UInt8)(w:wW)(g:t.length+1<=9223372036854775807):cW prog 45 #[V ⟨(c::t).toArray⟩,V ⟨#[48]⟩] w λe w'=>e=rX (Y (kX (c=48)))/\w=w':=by
 have f:=zOh c t;have d:(1:Int)<=(t.length:Int)+1:=oM;have E:hH (kX (c=48)=((uZ ⟨(c::t).toArray⟩ 0 1).toList == [48])):=f.symm;generalize kX (c=48)=b at*;go_enter func45,ntmps45;go_wp2;go_ret;exact⟨rfl,rfl⟩
theorem zFQ(w:wW):cW prog 45 #[V ⟨#[]⟩,V ⟨#[48]⟩] w λe w'=>e=rX (Y jX)/\w=w':=by
 go_enter func45,ntmps45;go_wp2;go_ret;exact⟨rfl,rfl⟩
theorem zFK(s:List UInt8)(w:wW)(q:s.length<=9223372036854775807):cW prog 267 #[V ⟨s.toArray⟩] w λe w'=>e=rX (uX #[O J ((Wpl.rr s).1:Nat),V ⟨(Wpl.rr s).2.toArray⟩])/\w=w':=by
 cases s with
 |nil =>
  have E:hH (Wpl.rr []=(0,[])):=(rfl:Wpl.rr []=(0,[]))
  go_enter func267,ntmps267;go_wp2_with fail
  refine(zFQ _).mono ?_;rintro e u ⟨rfl,rfl⟩;go_wp2;go_loopw [0,2] (λx y wr=>x=V ⟨#[]⟩/\y=O J 0/\wr=w) (λx _ _=>0)
  case atStart=>exact⟨rfl,rfl,rfl⟩
  case round =>
   obtain⟨rfl,rfl,rfl⟩:=hrel;go_wp2;go_ret2
   exact⟨by rw[E.out];rfl,rfl⟩
 |cons d f =>
  have o:f.length+1<=9223372036854775807:=by simpa using q
  have j:=λw=>zEL d f w o
  by_cases i:d=48
  ·have E:hH (Wpl.rr (d::f)=(0,d::f)):=by show _=_;unfold Wpl.rr;rw[if_pos (by rw[i];rfl)]
   rw[decide_eq_true i]at j;clear i;go_enter func267,ntmps267;go_wp2_with fail
   refine(j _).mono ?_;rintro e u ⟨rfl,rfl⟩;go_wp2;go_ret2
   exact⟨by rw[E.out];rfl,rfl⟩
  ·have A:hH (Wpl.rr (d::f)=Wpl.rd 0 (d::f)):=by show _=_;unfold Wpl.rr;rw[if_neg (by simpa using i)]
   rw[decide_eq_false i]at j;clear i;go_enter func267,ntmps267;go_wp2_with fail
   refine(j _).mono ?_;rintro e u ⟨rfl,rfl⟩;go_wp2;go_loopw [0,2] (λx y wr=>∃(l:List UInt8)(k:Nat),x=V ⟨l.toArray⟩/\y=O J k/\k<=655369/\l.length<=9223372036854775807/\hH (Wpl.rr (d::f)=Wpl.rd k l)/\wr=w) (λx _ _=>match x with|V b=>b.size|_=>0)
   case atStart=>exact⟨d::f,0,rfl,rfl,oM,q,A,rfl⟩
   case round =>
    obtain⟨l,k,rfl,rfl,I,B,g,rfl⟩:=hrel;clear q;cases l with
    |nil =>
     have E:hH (Wpl.rr (d::f)=(k,[])):=g.out;go_wp2;go_ret2
     exact⟨by rw[E.out];rfl,rfl⟩
    |cons c t =>
     obtain⟨C,b1⟩:=zJZ c;simp only[dZ]at B;by_cases D:48<=(c.toNat:Int)
     ·by_cases F:(c.toNat:Int)<=57
      ·by_cases H:(k:Int)<=65536
       ·have E:hH (Wpl.rr (d::f)=Wpl.rd (k*10+(c.toNat-48)) t):=by
         show _=_;rw[g.out]
         conv=>lhs;unfold Wpl.rd
         rw[if_pos ⟨by simp[Wpl.isG];omega,oM⟩]
        clear g;go_wp2_with fail
        go_roundw
        case rel=>exact⟨t,k*10+(c.toNat-48),congrArg V (zDM c t),congrArg (O J) (by show(k:Int)*10+((c.toNat:Nat)-48)=_;omega),oM,oM,E,trivial⟩
        case measure=>rw[zDM];simp[jY]
       ·have E:hH (Wpl.rr (d::f)=(k,c::t)):=by
         show _=_;rw[g.out]
         conv=>lhs;unfold Wpl.rd
         rw[if_neg oM]
        clear g;go_wp2;go_ret2
        exact⟨by rw[E.out];rfl,rfl⟩
      ·have E:hH (Wpl.rr (d::f)=(k,c::t)):=by
        show _=_;rw[g.out]
        conv=>lhs;unfold Wpl.rd
        rw[if_neg (by simp[Wpl.isG];omega)]
       clear g;go_wp2;go_ret2
       exact⟨by rw[E.out];rfl,rfl⟩
     ·have E:hH (Wpl.rr (d::f)=(k,c::t)):=by
       show _=_;rw[g.out]
       conv=>lhs;unfold Wpl.rd
       rw[if_neg (by simp[Wpl.isG];omega)]
      clear g;go_wp2;go_ret2
      exact⟨by rw[E.out];rfl,rfl⟩
theorem zEy(s:List UInt8)(w:wW)(F:s.length<=9223372036854775807) :
  CR 262 #[V ⟨s.toArray⟩] w (uX #[O J (Wpl.rdR s),O J (Wpl.rdC s),Y (Wpl.rdOk s)]):=by
 have A:=λw=>zFJ s w F
 have H:=Wpl.rc_len 0 s;have B:=λw=>zFK (Wpl.rc 0 s).2 w oM
 have L:=Wpl.rc_bd 0 s oM;have M:=Wpl.rr_bd (Wpl.rc 0 s).2;have i:hH (Wpl.rdOk s=kX ((Wpl.rr (Wpl.rc 0 s).2).2=[]/\1<=(Wpl.rr (Wpl.rc 0 s).2).1/\(Wpl.rr (Wpl.rc 0 s).2).1<=65536/\1<=(Wpl.rc 0 s).1/\(Wpl.rc 0 s).1<=256)):=(rfl:Wpl.rdOk s=_)
 have j:hH (Wpl.rdR s=if Wpl.rdOk s then((Wpl.rr (Wpl.rc 0 s).2).1:Int)-1 else 0):=(rfl:Wpl.rdR s=_)
 have g:hH (Wpl.rdC s=if Wpl.rdOk s then((Wpl.rc 0 s).1:Int)-1 else 0):=(rfl:Wpl.rdC s=_)
 generalize Wpl.rdOk s=ok at*;generalize Wpl.rdR s=R at*;generalize Wpl.rdC s=C at*;generalize Wpl.rr (Wpl.rc 0 s).2=q at*;generalize Wpl.rc 0 s=p at*;obtain⟨k,d⟩:=p;obtain⟨m,r⟩:=q;simp only at*;have f:=λw=>Qh 0 ((m:Int)-1) ((k:Int)-1) w
 have y:hH (Wpl.rightC 0 ((m:Int)-1) ((k:Int)-1)=kX (1<=m/\m<=65536/\1<=k/\k<=256)):=by
  show _=_
  rw[Bool.eq_iff_iff,Wpl.rightC_iff];simp;omega
 rw[y.out]at f;clear y H;go_enter func262,ntmps262;go_wp2_with fail
 refine(A _).mono ?_;rintro e T ⟨rfl,rfl⟩;go_wp2_with fail
 refine(B _).mono ?_;rintro e X ⟨rfl,rfl⟩;cases r with
 |cons x t =>
  have E:hH (ok=jX):=by show _=_;rw[i.out];simp
  go_wp2;go_ret3
  exact⟨by rw[E.out,j.out,g.out,E.out];rfl,clA⟩
 |nil =>
  by_cases u:1<=m/\m<=65536/\1<=k/\k<=256
  ·have E:hH (ok=iX):=by show _=_;rw[i.out];simp;omega
   rw[decide_eq_true u]at f;go_wp2_with fail
   refine(f _).mono ?_;rintro e o ⟨rfl,c⟩;have I:AtL o w.heap.size [O J 0,O J ((m:Int)-1),O J ((k:Int)-1)]:=AtL.below c (AtL.new0 w 36 _);have D:bL w o:=clA
   clear c;obtain⟨N,P,S⟩:=I.f3;go_wp2_with fail
   go_region
   all_goals
    go_wp2;go_ret3
    exact⟨by rw[E.out,j.out,g.out,E.out];rfl,clA⟩
  ·have E:hH (ok=jX):=by show _=_;rw[i.out];simp;omega
   rw[decide_eq_false u]at f;go_wp2_with fail
   refine(f _).mono ?_;rintro e o ⟨rfl,c⟩;go_wp2;go_ret3
   exact⟨by rw[E.out,j.out,g.out,E.out];rfl,clA⟩
open Go.RowKit Go.Shelf
def zBF:Go.Shelf.Ren:=⟨fun|217=>243|266=>250|n=>n,fun|9=>9|5=>5|3=>3|n=>n,fun|n=>n⟩
theorem zCe:Go.Proofs.Lays.n217 prog zBF:={
 mixed:=kR
 f217:=func243.trans (congrArg hX kR)
 f266:=func250.trans (congrArg hX kR)
 t3:=underlying3
 a3:=Tryz.isAgg3
 z3:=Tryz.sizeOf3
 v3:=Tryz.zeroValue3
 t5:=underlying5
 a5:=Tryz.isAgg5
 z5:=Tryz.sizeOf5
 v5:=Tryz.zeroValue5
 t9:=underlying9
 a9:=Tryz.isAgg9
 z9:=Tryz.sizeOf9
 v9:=Tryz.zeroValue9}
def Jx(l:List UInt8):List UInt8:=l.filter (λc=>!(c == 36))
theorem zJH(l:List UInt8):rep [36] [] l=Jx l:=by
 induction l with
 |nil=>exact zC6 dM
 |cons c t d =>
  by_cases h:c=36
  ·subst h;rw[zHb dM (by simp[rZ])];show rep [36] [] t=_
   rw[d];rfl
  ·rw[zDC dM (by simp[rZ];exactλe=>h e.symm),d];unfold Jx;rw[List.filter_cons_of_pos (by simp[h])]
theorem zHi(b:ByteArray)(w:wW)(d:MaxAt w)(f:b.size<=1048576):CR 144 #[V b,V ⟨#[36]⟩,V ⟨#[]⟩] w (V ⟨(Jx b.data.toList).toArray⟩):=by
 obtain⟨m,d⟩:=d;have c:=zAq b ⟨#[36]⟩ dM;have h:=Any.strings_ReplaceAll {lays155 with} zGI b ⟨#[36]⟩ ⟨#[]⟩ m w oM d dM (by show b.size+_*0<=_;omega);rw[zJA dM,zJH]at h;exact h
def dol(l:List UInt8):Bool:=match l with
 |c::_=>c == 36
 |[]=>jX
theorem zKL(c:UInt8)(t:List UInt8):((⟨(c::t).toArray⟩:ByteArray).extract 0 1).toList=[c]:=by rw[ByteArray.toList_eq];simp
theorem zK9(l:List UInt8)(w:wW)(j:l.length<=1048576):cW prog 45 #[V ⟨l.toArray⟩,V ⟨#[36]⟩] w λe w'=>e=rX (Y (dol l))/\w=w':=by
 cases l with
 |nil =>
  go_enter func45,ntmps45;go_wp2;go_ret;exact⟨rfl,rfl⟩
 |cons c t =>
  have f:(((⟨(c::t).toArray⟩:ByteArray).extract 0 1).toList == [36])=(c == 36):=by rw[zKL];simp
  have g:(⟨(c::t).toArray⟩:ByteArray).size=t.length+1:=rfl;have i:(1:Int)<=((⟨(c::t).toArray⟩:ByteArray).size:Int):=oM;unfold dol;simp only;generalize(⟨(c::t).toArray⟩:ByteArray)=s at*;cases d:(c == 36)with
  |true =>
   rw[d]at f;go_enter func45,ntmps45;go_wp2;go_ret;exact⟨rfl,rfl⟩
  |false =>
   rw[d]at f;go_enter func45,ntmps45;go_wp2;go_ret;exact⟨rfl,rfl⟩
theorem zLw(c:UInt8)(t:List UInt8):(⟨(c::t).toArray⟩:ByteArray).extract 1 (t.length+1)=⟨t.toArray⟩:=by
 apply cY
 simp[vZ]
theorem zIi(l:List UInt8)(w:wW)(u:l.length<=1048576):cW prog 264 #[V ⟨l.toArray⟩,V ⟨#[36]⟩] w λe w'=>e=rX (V ⟨(if dol l then l.drop 1 else l).toArray⟩)/\w=w':=by
 cases l with
 |nil =>
  go_enter func264,ntmps264;go_wp2;go_ret;exact⟨rfl,rfl⟩
 |cons c t =>
  have i:(((⟨(c::t).toArray⟩:ByteArray).extract 0 1).toList == [36])=(c == 36):=by rw[zKL];simp
  have g:(⟨(c::t).toArray⟩:ByteArray).size=t.length+1:=rfl;have o:=zLw c t;have q:(1:Int)<=((⟨(c::t).toArray⟩:ByteArray).size:Int):=oM;have hd:dol (c::t)=(c == 36):=rfl;rw[hd];have f:=hid o;clear o hd;obtain⟨s,d⟩:=xV (⟨(c::t).toArray⟩:ByteArray)
  rw[d]at i g q f;cases j:(c == 36)with
  |true =>
   rw[j]at i;rw[if_pos rfl];simp only[List.drop_succ_cons,List.drop_zero];rw[d,<-f.out];clear d;go_enter func264,ntmps264;go_wp2;go_ret;exact⟨rfl,rfl⟩
  |false =>
   rw[j]at i;rw[if_neg dM,d];clear d f;go_enter func264,ntmps264;go_wp2;go_ret;exact⟨rfl,rfl⟩
theorem zGc(s:ByteArray)(w:wW) :
  cW prog 243 #[V s,O .u8 36] w λe w'=>e=rX (O J (Lib.indexByte s.data.toList 36))/\w=w' :=
 (Any.stringslite_IndexByte zCe s 36 w).mono λe w' ⟨c,hw⟩=>⟨c,hw.symm⟩
theorem zEj(l:List UInt8)(w:wW) :
  cW prog 217 #[V ⟨l.toArray⟩,V ⟨#[36]⟩] w λe w'=>e=rX (O J (Lib.indexByte l 36))/\w=w':=by
 have I:=λw=>zGc ⟨l.toArray⟩ w
 rw[show(⟨l.toArray⟩:ByteArray).data.toList=l from rfl]at I;have e0:((((⟨#[36]⟩:ByteArray)[0]).toNat:Nat):Int)=36:=rfl;cases h:([36] == l)with
 |true =>
  obtain rfl:[36]=l:=by simpa using h
  have E:hH (Lib.indexByte [36] 36=0):=(rfl:Lib.indexByte [36] 36=0)
  go_enter func217,ntmps217;go_wp2;go_ret;exact⟨by rw[E.out];rfl,rfl⟩
 |false =>
  go_enter func217,ntmps217;go_wp2_with fail
  refine(I _).mono ?_;rintro e c ⟨rfl,rfl⟩;go_wp2;go_ret;exact⟨rfl,rfl⟩
theorem zDY(l:List UInt8):kX (0<=Lib.indexByte l 36)=l.any (λc=>c == 36):=by
 induction l with
 |nil=>rfl
 |cons b t g =>
  have i:=Lib.indexByte_ge t 36;rw[List.any_cons,<-g];have e:Lib.indexByte (b::t) 36=if b == 36 then 0 else if Lib.indexByte t 36 == -1 then -1 else Lib.indexByte t 36+1:=rfl
  rw[e];clear e;by_cases h:b=36
  ·subst h;simp
  ·rw[if_neg (by simpa using h)];have f:(b == 36)=jX:=by simp[h]
   rw[f,Bool.false_or];by_cases d:Lib.indexByte t 36=-1
   ·rw[d];rfl
   ·rw[if_neg (by simpa using d),decide_eq_true oM,decide_eq_true oM]
theorem zIN(l:List UInt8)(w:wW):cW prog 263 #[V ⟨l.toArray⟩,V ⟨#[36]⟩] w λe w'=>e=rX (Y (l.any (λc=>c == 36)))/\w=w':=by
 have I:=λw=>zEj l w
 have d:∀w:wW,cW prog 195 #[V ⟨l.toArray⟩,V ⟨#[36]⟩] w λe w'=>e=rX (O J (Lib.indexByte l 36))/\w=w':=by
  intro w;go_enter func195,ntmps195;go_wp2_with fail
  refine(I _).mono ?_;rintro e f ⟨rfl,rfl⟩;go_wp2;go_ret;exact⟨rfl,rfl⟩
 have E:=hid (zDY l);rw[<-E.out];clear I E;generalize Lib.indexByte l 36=n at*;go_enter func263,ntmps263;go_wp2_with fail
 refine(d _).mono ?_;rintro e f ⟨rfl,rfl⟩;go_wp2;go_ret;exact⟨rfl,rfl⟩
def XD(l:List UInt8):Wt.Rf:=⟨⟨#[]⟩,Wpl.rdR (Jx l),Wpl.rdC (Jx l),(if dol l then l.drop 1 else l).any (λc=>c == 36),dol l⟩
def rw1(l:List UInt8):Option Wt.Rf:=if Wpl.rdOk (Jx l)=iX then(if cw (XD l)=l then hX (XD l)else fX)else fX
def RwV(r:Option Wt.Rf):vW:=match r with
 |some a=>uX #[rfV a,Y iX]
 |none=>uX #[rfV Wt.r0,Y jX]
theorem zNp{l:List UInt8}(h:Wpl.rdOk l=iX):0<=Wpl.rdR l/\Wpl.rdR l<65536:=by
 unfold Wpl.rdR;rw[if_pos h];have:=of_decide_eq_true h;omega
theorem zDw (l:List UInt8) (w:wW) (hm:MaxAt w) (C:Lib.TabIs prog w "internal/strconv.uint64pow10" .u64 Lib.pow10Tab) (hl:l.length<=1024) :
  CR 261 #[V ⟨l.toArray⟩] w (RwV (rw1 l)):=by
 have TB:=Lib.tabBelow_of_tabIs C;clear C;have t:=AtL.new0 w 95 [V ⟨#[]⟩,O J 0,O J 0,Y jX,Y jX];have j:=QI (bZ _ w) (Z zR0 95);have H:=zHi ⟨l.toArray⟩ _ (hm.below j) (by show l.length<=_;omega);have hu:(Jx l).length<=l.length:=List.length_filter_le _ _;have L:=λw=>zEy (Jx l) w oM
 have M:=λw=>zK9 l w oM
 have N:=λw=>zIi l w oM
 have P:=λw=>zIN (if dol l then l.drop 1 else l) w
 have bd:=@zNp (Jx l);have y:=λw h0 h1 h=>zDm (XD l) w h0 h1 h
 have e1:(⟨l.toArray⟩:ByteArray).data.toList=l:=rfl;rw[e1]at H;unfold rw1;obtain⟨W,hW⟩:=xV (cw (XD l))
 rw[hW]at y ⊢;clear hW e1;unfold XD at y ⊢;generalize Jx l=u at*;generalize(if dol l then l.drop 1 else l)=v at*;generalize dol l=d at*;generalize v.any (λc=>c == 36)=f at*;generalize Wpl.rdR u=r at*;generalize Wpl.rdC u=c at*;generalize Wpl.rdOk u=q at*;simp only[rfV,rf5]at y;cases q
 ·rw[if_neg dM];clear y bd;go_enter func261,ntmps261;go_wp2_with fail
  refine H.mono ?_;rintro e w1 ⟨rfl,g⟩;have A:=AtL.below g t;have i:=QA j g;clear g t j;go_wp2_with fail
  refine(L _).mono ?_;rintro e I ⟨rfl,g⟩;have B:=AtL.below g A;have o:=QA i g;clear g A i;go_wp2_with fail
  refine(M _).mono ?_;rintro e D ⟨rfl,rfl⟩;go_wp2_with fail
  refine(N _).mono ?_;rintro e D ⟨rfl,rfl⟩;go_wp2_with fail
  refine(P _).mono ?_;rintro e D ⟨rfl,rfl⟩;obtain⟨X,a1,a2,a3,a4,g0,g1,g2,g3,g4⟩:=B.five;have F:=B.lt;have ab:¬w.heap.size=I.heap.size:=oM;have aa:¬I.heap.size=w.heap.size:=oM;go_wp2;refine bodyPost_ret (v:=uX #[rfV Wt.r0,Y jX]) (by simp[results,results261,go_sem,rfV,rf5,Wt.r0,X,a1,a2,a3,a4,F]) rfl ⟨rfl,?_⟩;exact(clB o)
 ·obtain⟨b0,b1⟩:=bd rfl;rw[if_pos rfl];replace y:=λw h=>y w b0 b1 h
  by_cases hw:W=l
  ·rw[if_pos hw];subst hw;go_enter func261,ntmps261;go_wp2_with fail
   refine H.mono ?_;rintro e w1 ⟨rfl,g⟩;have A:=AtL.below g t;have i:=QA j g;clear g t j;go_wp2_with fail
   refine(L _).mono ?_;rintro e I ⟨rfl,g⟩;have B:=AtL.below g A;have o:=QA i g;clear g A i;go_wp2_with fail
   refine(M _).mono ?_;rintro e D ⟨rfl,rfl⟩;go_wp2_with fail
   refine(N _).mono ?_;rintro e D ⟨rfl,rfl⟩;go_wp2_with fail
   refine(P _).mono ?_;rintro e D ⟨rfl,rfl⟩;have s:=QI o (Z #[V ⟨#[]⟩,O J r,O J c,Y f,Y d] 95);have hT:=(TB.on s).here;have S:=AtL.alloc B (Z #[V ⟨#[]⟩,O J r,O J c,Y f,Y d] 95);have R:=AtL.new0 I 95 [V ⟨#[]⟩,O J r,O J c,Y f,Y d];clear B o TB;go_wp2_with fail
   refine(y _ hT).mono ?_;rintro e w4 ⟨rfl,g⟩;have T:=AtL.below g S;have Y4:=AtL.below g R;have E:=QA s g;clear g S R s hT H L M N P y;obtain⟨X,a1,a2,a3,a4,g0,g1,g2,g3,g4⟩:=T.five;obtain⟨y0,y1,y2,y3,y4⟩:=Y4.f5;have F:=T.lt;go_wp2;refine bodyPost_ret (v:=uX #[rfV ⟨⟨#[]⟩,r,c,f,d⟩,Y iX]) (by simp[results,results261,go_sem,rfV,rf5,X,a1,a2,a3,a4]) rfl ⟨rfl,?_⟩;exact(clB E)
  ·rw[if_neg hw];have ac:(W == l)=jX:=by simp[hw]
   go_enter func261,ntmps261;go_wp2_with fail
   refine H.mono ?_;rintro e w1 ⟨rfl,g⟩;have A:=AtL.below g t;have i:=QA j g;clear g t j;go_wp2_with fail
   refine(L _).mono ?_;rintro e I ⟨rfl,g⟩;have B:=AtL.below g A;have o:=QA i g;clear g A i;go_wp2_with fail
   refine(M _).mono ?_;rintro e D ⟨rfl,rfl⟩;go_wp2_with fail
   refine(N _).mono ?_;rintro e D ⟨rfl,rfl⟩;go_wp2_with fail
   refine(P _).mono ?_;rintro e D ⟨rfl,rfl⟩;have s:=QI o (Z #[V ⟨#[]⟩,O J r,O J c,Y f,Y d] 95);have hT:=(TB.on s).here;have S:=AtL.alloc B (Z #[V ⟨#[]⟩,O J r,O J c,Y f,Y d] 95);have R:=AtL.new0 I 95 [V ⟨#[]⟩,O J r,O J c,Y f,Y d];clear B o TB;go_wp2_with fail
   refine(y _ hT).mono ?_;rintro e w4 ⟨rfl,g⟩;have T:=AtL.below g S;have Y4:=AtL.below g R;have E:=QA s g;clear g S R s hT H L M N P y;obtain⟨X,a1,a2,a3,a4,g0,g1,g2,g3,g4⟩:=T.five;obtain⟨y0,y1,y2,y3,y4⟩:=Y4.f5;have F:=T.lt;go_wp2;refine bodyPost_ret (v:=uX #[rfV Wt.r0,Y jX]) (by simp[results,results261,go_sem,rfV,rf5,Wt.r0,X,a1,a2,a3,a4]) rfl ⟨rfl,?_⟩;exact(clB E)
theorem QQ{P:Program}{g:Func}{t:Tmp}{T:TypeId}(h:g.results=#[.cell t T])(c:Array vW)(w:wW)(b:Nat)(cs:List vW)(d:TypeDesc)(q:c.getD t undef=pX (hX ⟨b,0,fX⟩))(i:w.rangeAt b 0 cs)
  (s:P.underlying T=hX d) (hd:d.isRow=iX) (j:(P.info? T).map (·.size)=hX cs.length):(results g c).run P w=.ok (gX cs.toArray) w:=by
 have o:=run_loadVar_mid (P:=P) w b 0 T cs d i s hd j;have f:c[t]?.getD undef=pX (hX ⟨b,0,fX⟩):=by rw[<-q];simp
 simp only[results,h];simp[f,o,asAddr]
def Env (w:wW):Prop:=OpsAt w/\FltAt w/\MaxAt w/\Lib.TabIs prog w "internal/strconv.uint64pow10" .u64 Lib.pow10Tab
theorem Env.below(h:Env w)(c:bL w w'):Env w':=⟨h.1.below c,h.2.1.below c,h.2.2.1.below c,(Lib.tabBelow_of_tabIs h.2.2.2).on c |>.here⟩
theorem Env.grown {kp:Nat} (h:Env w) (d:w.grownBy w' (hX kp)) (u:8<=kp):Env w':=by
 obtain⟨q,s,⟨m,t⟩,c⟩:=h;have f:∀g,g<8->hX g≠hX kp:=λg d e=>by have:=Option.some.inj e;omega
 refine⟨λj v o=>d.cell (q j v o) (f 1 dM),λj v o=>d.cell (s j v o) (f 0 dM),⟨m,d.cell t (f _ dM)⟩,?_⟩;have e:prog.globalNamed "internal/strconv.uint64pow10" = hX 6:=kR
 unfold Lib.TabIs World.var? at c ⊢;rw[e]at c ⊢;simp only[Option.bind_some]at c ⊢;have i:6<w.heap.size:=by
  rcases fY 6 w.heap.size with h|h
  ·exact h
  ·rw[Array.getElem?_eq_none h]at c;cases c
 rw[d.block _ i (f _ dM)];exact c
def QJ(x:Wt.Nd)(sl:vW):List vW:=QM x++[sl]
def ptV(x:Wt.Nd)(sl:vW):vW:=gX (QJ x sl).toArray
def PtIs(w:wW)(G:Nat->Prop):Nat->Wt.Nd->vW->List Wt.Nd->Prop
 |0,_,_,_=>False
 |n+1,x,sl,row=>∃(f:Option dW)(cap:Nat)(d:List (Wt.Nd×vW))(c:List (List Wt.Nd)),sl=U f d.length cap/\c.length=d.length/\row=x::c.flatten /\
   ∀i (h:i<d.length) (g:i<c.length),∃bb,f=hX ⟨bb,0,fX⟩/\G bb/\w.rangeAt bb (i*21) (QJ (d[i]).1 (d[i]).2)/\PtIs w G n (d[i]).1 (d[i]).2 (c[i])
theorem zCF{c o:Nat}(h:w.rangeAt c o (QJ x sl)):c<w.heap.size:=mZ _ _ (h 0 _ rfl)
theorem PtIs.keep{w w':wW}{G:Nat->Prop}(g:∀k,G k->k<w.heap.size->w'.heap[k]?=w.heap[k]?):∀(n:Nat){x:Wt.Nd}{sl:vW}{row:List Wt.Nd},PtIs w G n x sl row->PtIs w' G n x sl row
 |0,_,_,_,h=>h
 |n+1,x,sl,row,⟨av,cap,ps,rows,e,hl,hr,hp⟩=>⟨av,cap,ps,rows,e,hl,hr,λi h s=>by
   obtain⟨c,o,d,f,q⟩:=hp i h s;exact⟨c,o,d,λj v t=>(kY (a:=⟨c,i*21+j,fX⟩) (g c d (zCF f))).trans (f j v t),PtIs.keep g n q⟩⟩
theorem PtIs.mono{w:wW}{G G':Nat->Prop}(c:∀b,G b->G' b):∀(n:Nat){x:Wt.Nd}{sl:vW}{row:List Wt.Nd},PtIs w G n x sl row->PtIs w G' n x sl row
 |0,_,_,_,h=>h
 |n+1,x,sl,row,⟨av,cap,ps,rows,e,hl,hr,hp⟩=>⟨av,cap,ps,rows,e,hl,hr,λi h q=>by
   obtain⟨d,f,g,j,o⟩:=hp i h q;exact⟨d,f,c _ g,j,PtIs.mono c n o⟩⟩
theorem PtIs.leaf(w:wW)(G:Nat->Prop)(x:Wt.Nd):PtIs w G 1 x (U fX 0 0) [x]:=⟨fX,0,[],[],rfl,rfl,rfl,λi h=>absurd h (tY _)⟩
theorem PtIs.more{w:wW}{G:Nat->Prop}:∀{n:Nat}{x:Wt.Nd}{sl:vW}{row:List Wt.Nd},PtIs w G n x sl row->PtIs w G (n+1) x sl row
 |0,_,_,_,h=>h.elim
 |n+1,x,sl,row,⟨av,cap,ps,rows,e,hl,hr,hp⟩=>⟨av,cap,ps,rows,e,hl,hr,λi h o=>by
   obtain⟨c,d,f,g,j⟩:=hp i h o;exact⟨c,d,f,g,PtIs.more j⟩⟩
theorem PtIs.upto{row:List Wt.Nd}(h:PtIs w G n x sl row)(d:n<=m):PtIs w G m x sl row:=by
 induction m with
 |zero =>
   obtain rfl:n=0:=oM;exact h
 |succ m c =>
  rcases fY n (m+1)with h1|h1
  ·exact(c oM).more
  ·obtain rfl:n=m+1:=oM;exact h
theorem PtIs.one{row:List Wt.Nd}(h:PtIs w G n x sl row):∃c len cap,sl=U c len cap:=by
 cases n with
 |zero=>exact h.elim
 |succ n=>obtain⟨c,cap,f,d,e,_⟩:=h;exact⟨c,f.length,cap,e⟩
def Pt(w:wW)(lo:Nat)(v:vW)(row:List Wt.Nd):Prop:=∃n x sl,v=ptV x sl/\PtIs w (λb=>lo<=b) n x sl row
theorem Pt.grown{kp:Nat}{row:List Wt.Nd}(h:Pt w lo v row)(d:w.grownBy w' (hX kp))(g:kp<lo):Pt w' lo v row:=by
 obtain⟨n,x,sl,e,h⟩:=h;exact⟨n,x,sl,e,PtIs.keep (λk f c=>d.block k c (λe=>by have:=Option.some.inj e;omega)) n h⟩
theorem Pt.below{row:List Wt.Nd}(h:Pt w lo v row)(d:bL w w'):Pt w' lo v row:=by
 obtain⟨n,x,sl,e,h⟩:=h;exact⟨n,x,sl,e,PtIs.keep (λk f c=>d.block k c) n h⟩
theorem zAA(b k:Nat)(c:k≠b):∀(vs:List vW)(o:Nat)(w:wW),(w.setCells b o vs).heap[k]?=w.heap[k]?
 |[],_,_=>rfl
 |v::r,o,w=>by rw[oZ,zAA b k c r];exact nZ _ _ _ _ c
theorem Pt.far{row:List Wt.Nd}(h:Pt w lo v row)(f:b<lo)(o:Nat)(vs:List vW):Pt (w.setCells b o vs) lo v row:=by
 obtain⟨n,x,sl,e,h⟩:=h;exact⟨n,x,sl,e,PtIs.keep (λk c d=>zAA b k oM vs o w) n h⟩
theorem Pt.mono{c:Nat}{row:List Wt.Nd}(h:Pt w lo v row)(f:c<=lo):Pt w c v row:=by
 obtain⟨n,x,sl,e,h⟩:=h;exact⟨n,x,sl,e,PtIs.mono (λb d=>mY f d) n h⟩
theorem Qr(x:Wt.Nd)(sl:vW)(h:sl.oneCell'=iX):(QJ x sl).toArray.all (·.oneCell')=iX:=all_oneCell_toArray (λv c=>by
 unfold QJ at c;rcases List.mem_append.1 c with h1|h1
 ·exact zIw x v h1
 ·simp only[List.mem_cons,List.not_mem_nil,or_false]at h1;rw[h1];exact h)
def JO(v:Wt.Vl):Wt.Nd:=⟨1,v,0,⟨#[]⟩,0,Wt.r0,Wt.r0⟩
theorem zBx(v:Wt.Vl)(w:wW):CR 255 #[vlV v] w (ptV (JO v) (U fX 0 0)):=by
 obtain⟨g,i,d,j,c,f⟩:=v;show cW _ _ #[gX #[O J g,O J i,O J d,V j,Y c,O J f]] _ _
 have s:AtL ((w.alloc (Z #[O J g,O J i,O J d,V j,Y c,O J f] 64)).alloc (Z zP0 150)) (w.heap.size+1) (QJ (bare 0) (U fX 0 0)):=AtL.new1 w _ _ _;have o:eZ ((w.alloc (Z #[O J g,O J i,O J d,V j,Y c,O J f] 64)).alloc (Z zP0 150)) (w.heap.size+1) 0 (QJ ⟨1,⟨g,i,d,j,c,f⟩,0,⟨#[]⟩,0,Wt.r0,Wt.r0⟩ (U fX 0 0)).toArray.size:=s.there;have q:AtL (((w.alloc (Z #[O J g,O J i,O J d,V j,Y c,O J f] 64)).alloc (Z zP0 150)).setCells (w.heap.size+1) 0 (QJ ⟨1,⟨g,i,d,j,c,f⟩,0,⟨#[]⟩,0,Wt.r0,Wt.r0⟩ (U fX 0 0))) (w.heap.size+1) (QJ ⟨1,⟨g,i,d,j,c,f⟩,0,⟨#[]⟩,0,Wt.r0,Wt.r0⟩ (U fX 0 0)):=s.setAll rfl;have t:=Ql (QI (QI (bZ _ w) (Z #[O J g,O J i,O J d,V j,Y c,O J f] 64)) (Z zP0 150)) (iY w.heap.size) (QJ ⟨1,⟨g,i,d,j,c,f⟩,0,⟨#[]⟩,0,Wt.r0,Wt.r0⟩ (U fX 0 0)) 0;go_enter func255,ntmps255;go_upto_region 1 with fail
 go_wp2_with ((with_reducible refine stQ 150 (mX 2) (mX 5) (w.heap.size+1) 0 (QJ ⟨1,⟨g,i,d,j,c,f⟩,0,⟨#[]⟩,0,Wt.r0,Wt.r0⟩ (U fX 0 0)).toArray ?_ ?_ ?_);exact o;exact Qr _ _ rfl)
 refine bodyPost_ret (QQ rfl _ _ (w.heap.size+1) (QJ ⟨1,⟨g,i,d,j,c,f⟩,0,⟨#[]⟩,0,Wt.r0,Wt.r0⟩ (U fX 0 0)) _ rfl q.range underlying150 rfl kR) rfl ⟨rfl,t⟩
abbrev OpS(ka kb:Nat)(o:Int)(m:ByteArray)(t:Int)(W:wW):Prop :=
 W.cell? ⟨ka,0,fX⟩=hX (O J o)/\W.cell? ⟨ka,1,fX⟩=hX (V m)/\W.cell? ⟨ka,2,fX⟩=hX (O J t)
theorem Qq{ka kb:Nat}{o:Int}{m:ByteArray}{t:Int}(h:AtL W ka [O J o,V m,O J t]):OpS ka kb o m t W:=h.f3
def opN(k o:Int):Wt.Nd:=⟨k,Wt.v0,o,⟨#[]⟩,0,Wt.r0,Wt.r0⟩
def Qy(t:Int):Int:=if t<5 then 5 else 4
theorem zAH(o:Int)(m:ByteArray)(t:Int)(d:Option dW)(len cap:Nat)(w:wW):CR 175 #[gX #[O J o,V m,O J t],U d len cap] w (ptV (opN (Qy t) o) (U d len cap)):=by
 have C:=λw=>zD9 o m t w
 have pA:=(AtL.new0 w 222 [O J o,V m,O J t]).alloc (Z zP0 150);have D:AtL ((w.alloc (Z #[O J o,V m,O J t] 222)).alloc (Z zP0 150)) (w.heap.size+1) (QJ (bare 0) (U fX 0 0)):=AtL.new1 w _ _ _;have s:=QI (QI (bZ _ w) (Z #[O J o,V m,O J t] 222)) (Z zP0 150);unfold Qy;generalize(if t<5 then(5:Int)else 4)=g at*;go_enter func175,ntmps175;go_upto_region 1 with fail
 refine wp_region_held_drew (S:=OpS w.heap.size (w.heap.size+1) o m t) kR (Qq (AtL.drew pA)) (λc=>?_);refine tkQ 0 ?_
 refine tkQ 2 ?_
 refine tkQ 3 ?_
 refine tkQ 5 ?_
 refine rdQ 1 (λK f=>?_);go_simp
 refine(C _).mono ?_;rintro e B ⟨rfl,q⟩;have i:=AtL.below q (AtL.drew pA);have j:=AtL.below q (AtL.drew D);have u:=QA s.drew q;clear q;go_wp2_with fail
 refine hkQ f (Qq i) (λc=>?_);clear f K
 refine tkQ 4 ?_
 refine tkQ 6 ?_
 refine rdQ 7 (λK f=>?_);refine wp_store_mid 150 (mX 4) (mX 11) rfl (w.heap.size+1) 0 (QJ (opN g o) (U d len cap)).toArray rfl rfl j.there kR (Qr _ _ rfl) ?_;have A:AtL (B.setCells (w.heap.size+1) 0 (QJ (opN g o) (U d len cap))) (w.heap.size+1) (QJ (opN g o) (U d len cap)):=j.setAll rfl;have y:bL w (B.setCells (w.heap.size+1) 0 (QJ (opN g o) (U d len cap))):=Ql u (iY _) _ 0;refine f.out _ _ (Qq (i.farAll oM 0 _)) (λc=>?_);clear f K;try simp only[Act.put]
 refine wpAnyH_done kR ?_ _;go_wp2_with fail
 refine bodyPost_ret (QQ rfl _ _ (w.heap.size+1) (QJ (opN g o) (U d len cap)) _ rfl A.range underlying150 rfl kR) rfl ⟨rfl,y⟩
def pc(ts:List Wlx.TV)(en:Int):(Wt.Rf×List Wlx.TV)⊕(Int×Int) :=
 if(hd ts en).k=3 then(if fol ts [40]then .inr (50,pos ts en)else if fol ts [33]then .inr (50,pos ts en)else(match rw1 (hd ts en).t with|some a=>.inl (a,ts.tail)|none=>.inr (50,pos ts en)))else .inr (50,pos ts en)
def VX(kp:Nat)(en:Int)(r:(Wt.Rf×List Wlx.TV)⊕(Int×Int))(w:wW)(e:Ending)(w':wW):Prop:=match r with
 | .inl (a,rest)=>e=rX (rfV a)/\PSt w' kp rest en/\w.grownBy w' (hX kp)
 | .inr (c,p)=>e=J1 c p/\w.grownBy w' (hX kp)
theorem zFm(kp:Nat)(ts:List Wlx.TV)(en:Int)(w:wW)(h:PSt w kp ts en)(ah:ts.length<=1024)(ap:∀t∈ts,Qe t)(hE:Env w)(az:8<=kp):cW prog 260 #[pX (hX ⟨kp,0,fX⟩)] w λe w'=>VX kp en (pc ts en) w e w':=by
 have f:=QI (bZ _ w) (Z zR0 95);have pZ:=AtL.new0 w 95 [V ⟨#[]⟩,O J 0,O J 0,Y jX,Y jX];have o:=h.below f;have ab:=hE.below f;have N:=λw h=>JJ kp ts en w h
 have T:=λw h=>zAV kp ts en [40] w h ah
 have X:=λw h=>zAV kp ts en [33] w h ah
 have ax:=zFg;have av:=zFr;unfold pc pos;have ad:(hd ts en).k=3->∃r,ts=hd ts en::r:=by
  intro C;cases ts with
  |nil=>exact absurd C (by show¬(0:Int)=3;decide)
  |cons a r=>exact⟨r,rfl⟩
 have M0:=λw h=>Qp kp ts en w h
 unfold pos J1 at M0;have ag:(hd ts en).k=3->(hd ts en).t.length<=1024:=by
  intro C;obtain⟨r,hr⟩:=ad C;exact(ap (hd ts en) (by rw[hr];simp[hd])).1
 obtain⟨t,ht⟩:=xV (hd ts en)
 rw[ht]at N M0 ad ag ⊢;clear ht;obtain⟨k,x,p⟩:=t;unfold tkV at N;simp only at N M0 ag ad ⊢;have bad:∀(w1:wW)(e:Ending),e=.panicked [{v:=.iface 144 (gX #[O J 50,O J p]),recovered:=jX}]->bL w w1->VX kp en (.inr (50,p)) w e w1:=λw1 e he c=>⟨he,QD c _⟩
 by_cases af:k=3
 ·subst af;rw[if_pos rfl];cases ai:fol ts [40]with
  |true =>
   rw[ai]at T;rw[if_pos rfl];clear X;go_enter func260,ntmps260;go_wp2_with fail
   refine(N _ o).mono ?_;rintro e w1 ⟨rfl,c⟩;have j:=o.below c;have d:=QA f c;clear c o f;go_wp2_with fail
   refine(T _ j).mono ?_;rintro e w2 ⟨rfl,c⟩;have B:=j.below c;have g:=QA d c;clear c j d;go_wp2_with fail
   refine(M0 _ B).mono ?_;rintro e w3 ⟨rfl,c⟩;have i:=QA g c;go_wp2;exact⟨rfl,bad _ _ rfl i⟩
  |false =>
   rw[ai]at T;rw[if_neg dM];cases aj:fol ts [33]with
   |true =>
    rw[aj]at X;rw[if_pos rfl];go_enter func260,ntmps260;go_wp2_with fail
    refine(N _ o).mono ?_;rintro e w1 ⟨rfl,c⟩;have j:=o.below c;have d:=QA f c;clear c o f;go_wp2_with fail
    refine(T _ j).mono ?_;rintro e w2 ⟨rfl,c⟩;have B:=j.below c;have g:=QA d c;clear c j d;go_wp2_with fail
    refine(X _ B).mono ?_;rintro e w3 ⟨rfl,c⟩;have C:=B.below c;have i:=QA g c;clear c B g;go_wp2_with fail
    refine(M0 _ C).mono ?_;rintro e w4 ⟨rfl,c⟩;have q:=QA i c;go_wp2;exact⟨rfl,bad _ _ rfl q⟩
   |false =>
    rw[aj]at X;rw[if_neg dM];have RW:=λw hm ht=>zDw x w hm ht (ag rfl)
    obtain⟨r,hr⟩:=ad rfl;cases ak:rw1 x with
    |none =>
     rw[ak]at RW;simp only[RwV,rfV,rf5,Wt.r0]at RW;go_enter func260,ntmps260;go_wp2_with fail
     refine(N _ o).mono ?_;rintro e w1 ⟨rfl,c⟩;have j:=o.below c;have d:=QA f c;have L:=AtL.below c pZ;have E:=ab.below c;clear c o f pZ ab;go_wp2_with fail
     refine(T _ j).mono ?_;rintro e w2 ⟨rfl,c⟩;have B:=j.below c;have g:=QA d c;have M:=AtL.below c L;have F:=E.below c;clear c j d L E;go_wp2_with fail
     refine(X _ B).mono ?_;rintro e w3 ⟨rfl,c⟩;have C:=B.below c;have i:=QA g c;have R:=AtL.below c M;have H:=F.below c;clear c B g M F;go_wp2_with fail
     refine(Qa kp _).mono ?_;rintro e w4 ⟨rfl,rfl⟩;go_wp2_with fail
     refine(N _ C).mono ?_;rintro e w4 ⟨rfl,c⟩;have h4:=C.below c;have q:=QA i c;have S:=AtL.below c R;have s:=H.below c;clear c C i R H;go_wp2_with fail
     refine(RW _ s.2.2.1 s.2.2.2).mono ?_;rintro e w5 ⟨rfl,c⟩;have h5:=h4.below c;have D:=QA q c;have ae:=AtL.below c S;clear c h4 q S s N T X RW;have h6:=h5.below (QI (bZ _ w5) (Z zR0 95));have aa:=QI D (Z zR0 95);go_wp2_with fail
     refine(M0 _ h6).mono ?_;rintro e w7 ⟨rfl,c⟩;have ao:=QA aa c;go_wp2;exact⟨rfl,bad _ _ rfl ao⟩
    |some a =>
     obtain⟨A,ar,ac,y,u⟩:=a;rw[ak]at RW;simp only[RwV,rfV,rf5]at RW;subst hr;go_enter func260,ntmps260;go_wp2_with fail
     refine(N _ o).mono ?_;rintro e w1 ⟨rfl,c⟩;have j:=o.below c;have d:=QA f c;have L:=AtL.below c pZ;have E:=ab.below c;clear c o f pZ ab;go_wp2_with fail
     refine(T _ j).mono ?_;rintro e w2 ⟨rfl,c⟩;have B:=j.below c;have g:=QA d c;have M:=AtL.below c L;have F:=E.below c;clear c j d L E;go_wp2_with fail
     refine(X _ B).mono ?_;rintro e w3 ⟨rfl,c⟩;have C:=B.below c;have i:=QA g c;have R:=AtL.below c M;have H:=F.below c;clear c B g M F;go_wp2_with fail
     refine(Qa kp _).mono ?_;rintro e w4 ⟨rfl,rfl⟩;go_wp2_with fail
     refine(N _ C).mono ?_;rintro e w4 ⟨rfl,c⟩;have h4:=C.below c;have q:=QA i c;have S:=AtL.below c R;have s:=H.below c;clear c C i R H;go_wp2_with fail
     refine(RW _ s.2.2.1 s.2.2.2).mono ?_;rintro e w5 ⟨rfl,c⟩;have h5:=h4.below c;have D:=QA q c;have ae:=AtL.below c S;clear c h4 q S s N T X RW;have h6:=h5.below (QI (bZ _ w5) (Z #[V A,O J ar,O J ac,Y y,Y u] 95));have aa:=QI D (Z #[V A,O J ar,O J ac,Y y,Y u] 95);have am:=AtL.alloc ae (Z #[V A,O J ar,O J ac,Y y,Y u] 95);have al:=AtL.new0 w5 95 [V A,O J ar,O J ac,Y y,Y u];have aA:=D.size;have aw:=ae.lt;have I:=h.lt;clear h5 D ae;go_wp2_with fail
     refine(Qa kp _).mono ?_;rintro e w6 ⟨rfl,rfl⟩;have P:=JH 1 kp [⟨3,x,p⟩] r en _ h6 rfl dM ah;go_wp2_with fail
     refine P.mono ?_;rintro e w7 ⟨rfl,hp,hg⟩;have an:=am.grown hg (by intro e;have:=Option.some.inj e;omega);have aq:=al.grown hg (by intro e;have:=Option.some.inj e;omega);have hG:=QC (QD aa (hX kp)) hg;clear P h6 aa am al hg;obtain⟨y0,y1,y2,y3,y4⟩:=aq.f5;obtain⟨z0,z1,z2,z3,z4,g0,g1,g2,g3,g4⟩:=an.five;go_wp2;have au:=((((an.set 0 (V A)).set 1 (O J ar)).set 2 (O J ac)).set 3 (Y y)).set 4 (Y u);refine bodyPost_ret (QQ rfl _ _ w.heap.size [V A,O J ar,O J ac,Y y,Y u] _ rfl au.range underlying95 rfl kR) rfl ?_;exact⟨rfl,((((hp.far I _ _).far I _ _).far I _ _).far I _ _).far I _ _,QV (QV (QV (QV (QV hG (cZ _) _ _) (cZ _) _ _) (cZ _) _ _) (cZ _) _ _) (cZ _) _ _⟩
 ·rw[if_neg af];have ay:(k == 3)=jX:=by simp[af]
  clear T X;go_enter func260,ntmps260;go_wp2_with fail
  refine(N _ o).mono ?_;rintro e w1 ⟨rfl,c⟩;have j:=o.below c;have d:=QA f c;clear c o f;go_wp2_with fail
  refine(M0 _ j).mono ?_;rintro e w2 ⟨rfl,c⟩;have g:=QA d c;go_wp2;exact⟨rfl,bad _ _ rfl g⟩
abbrev PR:Type:=(List Wt.Nd×List Wlx.TV)⊕(Int×Int)
def QS(kp:Nat)(en:Int)(r:PR)(w:wW)(e:Ending)(w':wW):Prop:=match r with
 | .inl (row,rest)=>∃v,e=rX v/\Pt w' w.heap.size v row/\PSt w' kp rest en/\w.grownBy w' (hX kp)
 | .inr (c,p)=>e=J1 c p/\w.grownBy w' (hX kp)
theorem PSt.farAll{kp:Nat}(h:PSt w kp ts en){b:Nat}(c:kp<b):∀(vs:List vW)(o:Nat),PSt (w.setCells b o vs) kp ts en:=by
 intro vs;induction vs generalizing w with
 |nil=>intro o;exact h
 |cons v r d=>intro o;rw[oZ];exact d (h.far c o v) (o+1)
theorem QP{row:Option Nat}(h:w.grownBy W row){b:Nat}(c:w.heap.size<=b):∀(vs:List vW)(o:Nat),w.grownBy (W.setCells b o vs) row:=by
 intro vs;induction vs generalizing W with
 |nil=>intro o;exact h
 |cons v r d=>intro o;rw[oZ];exact d (QV h c o v) (o+1)
def pl(ts:List Wlx.TV)(en:Int):PR:=match Vp (hd ts en)with
 |some v=>.inl ([JO v],ts.tail)
 |none=>.inr (50,pos ts en)
theorem zEC{v:Wt.Vl}(h:Vp (hd ts en)=hX v):∃r,ts=hd ts en::r:=by
 cases ts with
 |nil=>exact absurd h (by simp[Vp,hd])
 |cons t r=>exact⟨r,rfl⟩
theorem zAk(en:Int)(h:∀t∈ts,Qe t):Qe (hd ts en):=by
 cases ts with
 |nil=>exact⟨by show 0<=1024;omega,λh=>absurd h (by show¬(0:Int)=4;decide)⟩
 |cons t r=>exact h t sM
theorem zB5(kp:Nat)(ts:List Wlx.TV)(en:Int)(w:wW)(h:PSt w kp ts en)(ag:ts.length<=1024)(ad:∀t∈ts,Qe t)(hE:Env w)(aj:8<=kp):cW prog 249 #[pX (hX ⟨kp,0,fX⟩)] w λe w'=>QS kp en (pl ts en) w e w':=by
 have d:=QI (bZ _ w) (Z zP0 150);have pZ:AtL (w.alloc (Z zP0 150)) w.heap.size (QJ (bare 0) (U fX 0 0)):=AtL.new0 w _ _;have C:=h.below d;have u:=hE.below d;have N:=λw h=>JJ kp ts en w h
 have LV:=λw h=>zKa (hd ts en) w h (zAk en ad)
 have D:=λw h=>Qp kp ts en w h
 have LC:=λv=>@zEC ts en v
 unfold pl;unfold pos at D ⊢;obtain⟨t,ht⟩:=xV (hd ts en)
 rw[ht]at N D LV LC ⊢;clear ht;cases T:Vp t with
 |none =>
  simp only;unfold J1 at D;go_enter func249,ntmps249;go_wp2_with fail
  generalize w.alloc (Z zP0 150)=wa at*;refine(N _ C).mono ?_;rintro e w1 ⟨rfl,c⟩;have E:=C.below c;have q:=QA d c;have y:=u.below c;clear c C d u;go_wp2_with fail
  refine(LV _ y.2.1).mono ?_;rintro e X ⟨⟨v,ok,rfl,A⟩,c⟩;rw[T]at A;have hk:ok=jX:=by
   cases ok with
   |false=>rfl
   |true=>exact absurd A sM
  subst hk;obtain⟨v1,f,g,i,j,o⟩:=v;simp only[vlV,vl6];have R:=(E.below c).below (QI (bZ _ X) (Z #[O J v1,O J f,O J g,V i,Y j,O J o] 64));have s:=QI (QA q c) (Z #[O J v1,O J f,O J g,V i,Y j,O J o] 64);clear c E q;go_wp2_with fail
  refine(D _ R).mono ?_;rintro e w3 ⟨rfl,c⟩;have aa:=QA s c;go_wp2;exact⟨rfl,rfl,QD aa _⟩
 |some v =>
  simp only;obtain⟨r,hr⟩:=LC v T;have ac:=h.lt;have KC:=λw=>zBx v w
  go_enter func249,ntmps249;go_wp2_with fail
  generalize w.alloc (Z zP0 150)=wa at*;refine(N _ C).mono ?_;rintro e w1 ⟨rfl,c⟩;have E:=C.below c;have q:=QA d c;have y:=u.below c;have B:=AtL.below c pZ;clear c C d u pZ;go_wp2_with fail
  refine(LV _ y.2.1).mono ?_;rintro e X ⟨⟨v',ok,rfl,A⟩,c⟩;rw[T]at A;have hk:ok=iX/\v=v':=by
   cases ok with
   |false=>exact absurd A sM
   |true=>exact⟨rfl,by simpa using A⟩
  obtain⟨rfl,rfl⟩:=hk;obtain⟨v1,f,g,i,j,o⟩:=v;simp only[vlV,vl6]at KC ⊢;have R:=(E.below c).below (QI (bZ _ X) (Z #[O J v1,O J f,O J g,V i,Y j,O J o] 64));have s:=QI (QA q c) (Z #[O J v1,O J f,O J g,V i,Y j,O J o] 64);have I:=(AtL.below c B).alloc (Z #[O J v1,O J f,O J g,V i,Y j,O J o] 64);have F:=AtL.new0 X 64 [O J v1,O J f,O J g,V i,Y j,O J o];have ai:=(AtL.below c B).lt;clear c E q B T A LC D;subst hr;have P:=JH 1 kp [t] r en _ R rfl dM ag;go_wp2_with fail
  refine(Qa kp _).mono ?_;rintro e w3 ⟨rfl,rfl⟩;go_wp2_with fail
  refine P.mono ?_;rintro e w3 ⟨rfl,hp,S⟩;have L:=I.grown S (by intro e;have:=Option.some.inj e;omega);have H:=F.grown S (by intro e;have:=Option.some.inj e;omega);have hG:=QC (QD s (hX kp)) S;clear P R s I F S;obtain⟨y0,y1,y2,y3,y4,y5⟩:=H.f6;go_wp2_with fail
  refine(KC _).mono ?_;rintro e w4 ⟨rfl,c⟩;have M:=AtL.below c L;have ae:=hp.below c;have ab:=QC hG (QD c (hX kp));have af:eZ w4 w.heap.size 0 (QJ (JO ⟨v1,f,g,i,j,o⟩) (U fX 0 0)).toArray.size:=M.there;clear L hp hG c y0 y1 y2 y3 y4 y5 H;unfold ptV;go_wp2_with ((with_reducible refine stQ 150 (mX 2) (mX 17) (w.heap.size) 0 (QJ (JO ⟨v1,f,g,i,j,o⟩) (U fX 0 0)).toArray ?_ ?_ ?_);exact af;exact Qr _ _ rfl)
  have ah:AtL (w4.setCells w.heap.size 0 (QJ (JO ⟨v1,f,g,i,j,o⟩) (U fX 0 0))) w.heap.size (QJ (JO ⟨v1,f,g,i,j,o⟩) (U fX 0 0)):=M.setAll rfl;refine bodyPost_ret (QQ rfl _ _ w.heap.size (QJ (JO ⟨v1,f,g,i,j,o⟩) (U fX 0 0)) _ rfl ah.range underlying150 rfl kR) rfl ?_;exact⟨_,rfl,⟨1,_,_,rfl,PtIs.leaf _ _ _⟩,ae.farAll ac _ 0,QP ab (cZ _) _ 0⟩
def pcs(s:ByteArray)(ts:List Wlx.TV)(en:Int):PR:=match pc ts en with
 | .inr e=>.inr e
 | .inl (a,r)=>match tk r [58]with
  |none=>.inl ([⟨2,Wt.v0,0,⟨#[]⟩,0,⟨s,a.r,a.c,a.fr,a.fc⟩,Wt.r0⟩],r)
  |some d=>match pc d en with
   | .inr e=>.inr e
   | .inl (b,r3)=>.inl ([⟨3,Wt.v0,0,⟨#[]⟩,0,⟨s,a.r,a.c,a.fr,a.fc⟩,b⟩],r3)
theorem zFC{a:Wt.Rf}(h:pc ts en=.inl (a,r)):r=ts.tail:=by
 unfold pc at h;split at h
 ·split at h
  ·cases h
  split at h
  ·cases h
  split at h
  ·simp only[Sum.inl.injEq,Prod.mk.injEq]at h;exact h.2.symm
  ·cases h
 ·cases h
theorem zH8{m:List UInt8}(h:tk ts m=hX r):r=ts.tail:=by
 unfold tk at h;cases ts with
 |nil=>cases h
 |cons t q =>
  simp only at h;split at h
  ·exact(Option.some.inj h).symm
  ·cases h
theorem zFf{α:Type}{a:α}{l:List α}(h:a∈l.tail):a∈l:=List.mem_of_mem_tail h
theorem zAx(kp:Nat)(s:ByteArray)(ts:List Wlx.TV)(en:Int)(w:wW)(h:PSt w kp ts en)(aQ:ts.length<=1024)(aF:∀t∈ts,Qe t)(hE:Env w)(ai:8<=kp):cW prog 254 #[pX (hX ⟨kp,0,fX⟩),V s] w λe w'=>QS kp en (pcs s ts en) w e w':=by
 have aa:=QI (bZ _ w) (Z zP0 150);have pZ:AtL (w.alloc (Z zP0 150)) w.heap.size (QJ (bare 0) (U fX 0 0)):=AtL.new0 w _ _;have h0:=h.below aa;have S:=hE.below aa;have aE:=h.lt;have C:=λw h hE=>zFm kp ts en w h aQ aF hE ai
 unfold pcs;cases au:pc ts en with
 |inr q =>
  obtain⟨c,p⟩:=q;simp only[QS];go_enter func254,ntmps254;go_wp2_with fail
  generalize w.alloc (Z zP0 150)=wa at*;refine(C _ h0 S).mono ?_;rintro e g M;rw[au]at M;simp only[VX]at M;obtain⟨rfl,N⟩:=M;unfold J1;go_wp2;exact⟨rfl,rfl,QC (QD aa (hX kp)) N⟩
 |inl q =>
  obtain⟨⟨s0,B,A,f,d⟩,X⟩:=q;have av:=zFC au;have aX:X.length<=1024:=by rw[av,oY];omega
  have aG:∀t∈X,Qe t:=λt ht=>aF t (zFf (by rw[<-av];exact ht))
  simp only;cases ay:tk X [58]with
  |none =>
   simp only[QS];go_enter func254,ntmps254;go_wp2_with fail
   generalize w.alloc (Z zP0 150)=wa at*;refine(C _ h0 S).mono ?_;rintro e g M;rw[au]at M;simp only[VX]at M;obtain⟨rfl,h1,N⟩:=M;have R:=pZ.grown N (by intro e;have:=Option.some.inj e;omega);have af:=QC (QD aa (hX kp)) N;have ab:=S.grown N ai;clear N pZ h0 aa S C;simp only[rfV,rf5];have P:AtL (g.alloc (Z zN0 97)) g.heap.size (QM (bare 0)):=AtL.new0 g _ _;have H:eZ (g.alloc (Z zN0 97)) g.heap.size 0 (QM ⟨2,Wt.v0,0,⟨#[]⟩,0,⟨s0,B,A,f,d⟩,Wt.r0⟩).toArray.size:=P.there;have az:=R.lt;have aq:=h1.lt;go_upto_region 2 with((with_reducible refine stQ 97 (mX 5) (mX 8) (g.heap.size) 0 (QM ⟨2,Wt.v0,0,⟨#[]⟩,0,⟨s0,B,A,f,d⟩,Wt.r0⟩).toArray ?_ ?_ ?_);exact H;exact Jp _)
   have i:=Ql (QI (bZ _ g) (Z zN0 97)) (cZ g.heap.size) (QM ⟨2,Wt.v0,0,⟨#[]⟩,0,⟨s0,B,A,f,d⟩,Wt.r0⟩) 0;have E:AtL ((g.alloc (Z zN0 97)).setCells g.heap.size 0 (QM ⟨2,Wt.v0,0,⟨#[]⟩,0,⟨s0,B,A,f,d⟩,Wt.r0⟩)) g.heap.size (QM ⟨2,Wt.v0,0,⟨#[]⟩,0,⟨s0,B,A,f,d⟩,Wt.r0⟩):=P.setAll rfl;have ak:=AtL.below i R;have h2:=h1.below i;have ad:=ab.below i;have ag:=QC af (QD i (hX kp));have o:g.heap.size≠w.heap.size:=oM;have u:kp<g.heap.size:=aq;have y:w.heap.size<=g.heap.size:=oM;clear P H i R h1 ab af;generalize(g.alloc (Z zN0 97)).setCells g.heap.size 0 (QM ⟨2,Wt.v0,0,⟨#[]⟩,0,⟨s0,B,A,f,d⟩,Wt.r0⟩)=w2 at*;generalize g.heap.size=D at*;have aw:=E.2.1 10 _ rfl;have ao:=E.2.2 10 (by show 10<20;decide);have aj:AtL (w2.setCell ⟨D,10,fX⟩ (V s)) D (QM ⟨2,Wt.v0,0,⟨#[]⟩,0,⟨s,B,A,f,d⟩,Wt.r0⟩):=E.set 10 (V s);have al:=ak.far o 10 (V s);have h3:=h2.far u 10 (V s);have ah:=QV ag y 10 (V s);have ae:Env (w2.setCell ⟨D,10,fX⟩ (V s)):=ad.grown (Q8 w2 D 10 (V s)) oM;go_upto_region 3 with fail
   clear E ak h2 ag aw ao ad;generalize w2.setCell ⟨D,10,fX⟩ (V s)=w3 at*;have T:=Qv kp X en [58] w3 h3 oM;rw[ay]at T;simp only at T;go_wp2_with fail
   refine T.mono ?_;rintro e w4 ⟨rfl,h4,j⟩;have ax:=aj.grown j (by intro e;have:=Option.some.inj e;omega);have an:=al.grown j (by intro e;have:=Option.some.inj e;omega);have am:=QC ah j;have ap:=ae.grown j ai;clear aj al h3 ah ae T j;have rN:=ax.range;have aB:eZ w4 w.heap.size 0 (QJ ⟨2,Wt.v0,0,⟨#[]⟩,0,⟨s,B,A,f,d⟩,Wt.r0⟩ (U fX 0 0)).toArray.size:=an.there;go_wp2_with (first|((with_reducible refine wpList_load_mid (cs:=[O J 2,O J 0,O J 0,O J 0,V ⟨#[]⟩,Y jX,O J 0,O J 0,V ⟨#[]⟩,O J 0,V s,O J B,O J A,Y f,Y d,V ⟨#[]⟩,O J 0,O J 0,Y jX,Y jX]) ?_ 97 (mX 5) ?_ D 0 ?_ _ ?_ underlying97 ?_ ?_ ?_);rfl;rfl;rfl;exact rN;rfl;kernel_rfl)|((with_reducible refine stQ 150 (mX 4) (mX 19) (w.heap.size) 0 (QJ ⟨2,Wt.v0,0,⟨#[]⟩,0,⟨s,B,A,f,d⟩,Wt.r0⟩ (U fX 0 0)).toArray ?_ ?_ ?_);exact aB;exact Qr _ _ rfl))
   have aC:AtL (oZ w4 w.heap.size 0 (QJ ⟨2,Wt.v0,0,⟨#[]⟩,0,⟨s,B,A,f,d⟩,Wt.r0⟩ (U fX 0 0))) w.heap.size (QJ ⟨2,Wt.v0,0,⟨#[]⟩,0,⟨s,B,A,f,d⟩,Wt.r0⟩ (U fX 0 0)):=an.setAll rfl;refine bodyPost_ret (QQ rfl _ _ w.heap.size (QJ ⟨2,Wt.v0,0,⟨#[]⟩,0,⟨s,B,A,f,d⟩,Wt.r0⟩ (U fX 0 0)) _ rfl aC.range underlying150 rfl kR) rfl ?_;exact⟨_,rfl,⟨1,_,_,rfl,PtIs.leaf _ _ _⟩,h4.farAll aE _ 0,QP am (cZ _) _ 0⟩
  |some r2 =>
   have aH:=zH8 ay;have C2:=λw h hE=>zFm kp r2 en w h (by rw[aH,oY];omega) (λt ht=>aG t (zFf (by rw[<-aH];exact ht))) hE ai
   simp only;cases aA:pc r2 en with
   |inr q =>
    obtain⟨c,p⟩:=q;simp only[QS];go_enter func254,ntmps254;go_wp2_with fail
    generalize w.alloc (Z zP0 150)=wa at*;refine(C _ h0 S).mono ?_;rintro e g M;rw[au]at M;simp only[VX]at M;obtain⟨rfl,h1,N⟩:=M;have R:=pZ.grown N (by intro e;have:=Option.some.inj e;omega);have af:=QC (QD aa (hX kp)) N;have ab:=S.grown N ai;clear N pZ h0 aa S C;simp only[rfV,rf5];have P:AtL (g.alloc (Z zN0 97)) g.heap.size (QM (bare 0)):=AtL.new0 g _ _;have H:eZ (g.alloc (Z zN0 97)) g.heap.size 0 (QM ⟨2,Wt.v0,0,⟨#[]⟩,0,⟨s0,B,A,f,d⟩,Wt.r0⟩).toArray.size:=P.there;have az:=R.lt;have aq:=h1.lt;go_upto_region 2 with((with_reducible refine stQ 97 (mX 5) (mX 8) (g.heap.size) 0 (QM ⟨2,Wt.v0,0,⟨#[]⟩,0,⟨s0,B,A,f,d⟩,Wt.r0⟩).toArray ?_ ?_ ?_);exact H;exact Jp _)
    have i:=Ql (QI (bZ _ g) (Z zN0 97)) (cZ g.heap.size) (QM ⟨2,Wt.v0,0,⟨#[]⟩,0,⟨s0,B,A,f,d⟩,Wt.r0⟩) 0;have E:AtL ((g.alloc (Z zN0 97)).setCells g.heap.size 0 (QM ⟨2,Wt.v0,0,⟨#[]⟩,0,⟨s0,B,A,f,d⟩,Wt.r0⟩)) g.heap.size (QM ⟨2,Wt.v0,0,⟨#[]⟩,0,⟨s0,B,A,f,d⟩,Wt.r0⟩):=P.setAll rfl;have ak:=AtL.below i R;have h2:=h1.below i;have ad:=ab.below i;have ag:=QC af (QD i (hX kp));have o:g.heap.size≠w.heap.size:=oM;have u:kp<g.heap.size:=aq;have y:w.heap.size<=g.heap.size:=oM;clear P H i R h1 ab af;generalize(g.alloc (Z zN0 97)).setCells g.heap.size 0 (QM ⟨2,Wt.v0,0,⟨#[]⟩,0,⟨s0,B,A,f,d⟩,Wt.r0⟩)=w2 at*;generalize g.heap.size=D at*;have aw:=E.2.1 10 _ rfl;have ao:=E.2.2 10 (by show 10<20;decide);have aj:AtL (w2.setCell ⟨D,10,fX⟩ (V s)) D (QM ⟨2,Wt.v0,0,⟨#[]⟩,0,⟨s,B,A,f,d⟩,Wt.r0⟩):=E.set 10 (V s);have al:=ak.far o 10 (V s);have h3:=h2.far u 10 (V s);have ah:=QV ag y 10 (V s);have ae:Env (w2.setCell ⟨D,10,fX⟩ (V s)):=ad.grown (Q8 w2 D 10 (V s)) oM;go_upto_region 3 with fail
    clear E ak h2 ag aw ao ad;generalize w2.setCell ⟨D,10,fX⟩ (V s)=w3 at*;have T:=Qv kp X en [58] w3 h3 oM;rw[ay]at T;simp only at T;go_wp2_with fail
    refine T.mono ?_;rintro e w4 ⟨rfl,h4,j⟩;have ax:=aj.grown j (by intro e;have:=Option.some.inj e;omega);have an:=al.grown j (by intro e;have:=Option.some.inj e;omega);have am:=QC ah j;have ap:=ae.grown j ai;clear aj al h3 ah ae T j;go_wp2_with fail
    refine(C2 _ h4 ap).mono ?_;rintro e w5 M;rw[aA]at M;simp only[VX]at M;obtain⟨rfl,N⟩:=M;unfold J1;go_wp2;exact⟨rfl,rfl,QC am N⟩
   |inl q =>
    obtain⟨⟨bs,br,bc,L,I⟩,r3⟩:=q;simp only[QS];go_enter func254,ntmps254;go_wp2_with fail
    generalize w.alloc (Z zP0 150)=wa at*;refine(C _ h0 S).mono ?_;rintro e g M;rw[au]at M;simp only[VX]at M;obtain⟨rfl,h1,N⟩:=M;have R:=pZ.grown N (by intro e;have:=Option.some.inj e;omega);have af:=QC (QD aa (hX kp)) N;have ab:=S.grown N ai;clear N pZ h0 aa S C;simp only[rfV,rf5];have P:AtL (g.alloc (Z zN0 97)) g.heap.size (QM (bare 0)):=AtL.new0 g _ _;have H:eZ (g.alloc (Z zN0 97)) g.heap.size 0 (QM ⟨2,Wt.v0,0,⟨#[]⟩,0,⟨s0,B,A,f,d⟩,Wt.r0⟩).toArray.size:=P.there;have az:=R.lt;have aq:=h1.lt;go_upto_region 2 with((with_reducible refine stQ 97 (mX 5) (mX 8) (g.heap.size) 0 (QM ⟨2,Wt.v0,0,⟨#[]⟩,0,⟨s0,B,A,f,d⟩,Wt.r0⟩).toArray ?_ ?_ ?_);exact H;exact Jp _)
    have i:=Ql (QI (bZ _ g) (Z zN0 97)) (cZ g.heap.size) (QM ⟨2,Wt.v0,0,⟨#[]⟩,0,⟨s0,B,A,f,d⟩,Wt.r0⟩) 0;have E:AtL ((g.alloc (Z zN0 97)).setCells g.heap.size 0 (QM ⟨2,Wt.v0,0,⟨#[]⟩,0,⟨s0,B,A,f,d⟩,Wt.r0⟩)) g.heap.size (QM ⟨2,Wt.v0,0,⟨#[]⟩,0,⟨s0,B,A,f,d⟩,Wt.r0⟩):=P.setAll rfl;have ak:=AtL.below i R;have h2:=h1.below i;have ad:=ab.below i;have ag:=QC af (QD i (hX kp));have o:g.heap.size≠w.heap.size:=oM;have u:kp<g.heap.size:=aq;have y:w.heap.size<=g.heap.size:=oM;clear P H i R h1 ab af;generalize(g.alloc (Z zN0 97)).setCells g.heap.size 0 (QM ⟨2,Wt.v0,0,⟨#[]⟩,0,⟨s0,B,A,f,d⟩,Wt.r0⟩)=w2 at*;generalize g.heap.size=D at*;have aw:=E.2.1 10 _ rfl;have ao:=E.2.2 10 (by show 10<20;decide);have aj:AtL (w2.setCell ⟨D,10,fX⟩ (V s)) D (QM ⟨2,Wt.v0,0,⟨#[]⟩,0,⟨s,B,A,f,d⟩,Wt.r0⟩):=E.set 10 (V s);have al:=ak.far o 10 (V s);have h3:=h2.far u 10 (V s);have ah:=QV ag y 10 (V s);have ae:Env (w2.setCell ⟨D,10,fX⟩ (V s)):=ad.grown (Q8 w2 D 10 (V s)) oM;go_upto_region 3 with fail
    clear E ak h2 ag aw ao ad;generalize w2.setCell ⟨D,10,fX⟩ (V s)=w3 at*;have T:=Qv kp X en [58] w3 h3 oM;rw[ay]at T;simp only at T;go_wp2_with fail
    refine T.mono ?_;rintro e w4 ⟨rfl,h4,j⟩;have ax:=aj.grown j (by intro e;have:=Option.some.inj e;omega);have an:=al.grown j (by intro e;have:=Option.some.inj e;omega);have am:=QC ah j;have ap:=ae.grown j ai;clear aj al h3 ah ae T j;go_wp2_with fail
    refine(C2 _ h4 ap).mono ?_;rintro e w5 M;rw[aA]at M;simp only[VX]at M;obtain⟨rfl,h5,N⟩:=M;have F:=ax.grown N (by intro e;have:=Option.some.inj e;omega);have aI:=an.grown N (by intro e;have:=Option.some.inj e;omega);have aD:=QC am N;clear ax an h4 am ap N C2;simp only[rfV,rf5];have n0:=F.2.1 0 _ rfl;have aR:=F.2.1 15 _ rfl;have aS:=F.2.1 16 _ rfl;have aT:=F.2.1 17 _ rfl;have aU:=F.2.1 18 _ rfl;have aV:=F.2.1 19 _ rfl;have f0:=F.2.2 0 (by show 0<20;decide);have aK:=F.2.2 15 (by show 15<20;decide);have aL:=F.2.2 16 (by show 16<20;decide);have aM:=F.2.2 17 (by show 17<20;decide);have aN:=F.2.2 18 (by show 18<20;decide);have aO:=F.2.2 19 (by show 19<20;decide);have aW:AtL ((((((w5.setCell ⟨D,0,fX⟩ (O J 3)).setCell ⟨D,15,fX⟩ (V bs)).setCell ⟨D,16,fX⟩ (O J br)).setCell ⟨D,17,fX⟩ (O J bc)).setCell ⟨D,18,fX⟩ (Y L)).setCell ⟨D,19,fX⟩ (Y I)) D (QM ⟨3,Wt.v0,0,⟨#[]⟩,0,⟨s,B,A,f,d⟩,⟨bs,br,bc,L,I⟩⟩):=(((((F.set 0 _).set 15 _).set 16 _).set 17 _).set 18 _).set 19 _;have aJ:=(((((aI.far o 0 (O J 3)).far o 15 (V bs)).far o 16 (O J br)).far o 17 (O J bc)).far o 18 (Y L)).far o 19 (Y I);have h6:=(((((h5.far u 0 (O J 3)).far u 15 (V bs)).far u 16 (O J br)).far u 17 (O J bc)).far u 18 (Y L)).far u 19 (Y I)
    have aP:=QV (QV (QV (QV (QV (QV aD y 0 (O J 3)) y 15 (V bs)) y 16 (O J br)) y 17 (O J bc)) y 18 (Y L)) y 19 (Y I);go_upto_region 5 with fail
    clear F aI h5 aD n0 aR aS aT aU aV f0 aK aL aM aN aO;generalize(((((w5.setCell ⟨D,0,fX⟩ (O J 3)).setCell ⟨D,15,fX⟩ (V bs)).setCell ⟨D,16,fX⟩ (O J br)).setCell ⟨D,17,fX⟩ (O J bc)).setCell ⟨D,18,fX⟩ (Y L)).setCell ⟨D,19,fX⟩ (Y I)=w6 at*;have rN:=aW.range;have aB:eZ w6 w.heap.size 0 (QJ ⟨3,Wt.v0,0,⟨#[]⟩,0,⟨s,B,A,f,d⟩,⟨bs,br,bc,L,I⟩⟩ (U fX 0 0)).toArray.size:=aJ.there;go_wp2_with (first|((with_reducible refine wpList_load_mid (cs:=[O J 3,O J 0,O J 0,O J 0,V ⟨#[]⟩,Y jX,O J 0,O J 0,V ⟨#[]⟩,O J 0,V s,O J B,O J A,Y f,Y d,V bs,O J br,O J bc,Y L,Y I]) ?_ 97 (mX 5) ?_ D 0 ?_ _ ?_ underlying97 ?_ ?_ ?_);rfl;rfl;rfl;exact rN;rfl;kernel_rfl)|((with_reducible refine stQ 150 (mX 4) (mX 19) (w.heap.size) 0 (QJ ⟨3,Wt.v0,0,⟨#[]⟩,0,⟨s,B,A,f,d⟩,⟨bs,br,bc,L,I⟩⟩ (U fX 0 0)).toArray ?_ ?_ ?_);exact aB;exact Qr _ _ rfl))
    have aC:AtL (oZ w6 w.heap.size 0 (QJ ⟨3,Wt.v0,0,⟨#[]⟩,0,⟨s,B,A,f,d⟩,⟨bs,br,bc,L,I⟩⟩ (U fX 0 0))) w.heap.size (QJ ⟨3,Wt.v0,0,⟨#[]⟩,0,⟨s,B,A,f,d⟩,⟨bs,br,bc,L,I⟩⟩ (U fX 0 0)):=aJ.setAll rfl;refine bodyPost_ret (QQ rfl _ _ w.heap.size (QJ ⟨3,Wt.v0,0,⟨#[]⟩,0,⟨s,B,A,f,d⟩,⟨bs,br,bc,L,I⟩⟩ (U fX 0 0)) _ rfl aC.range underlying150 rfl kR) rfl ?_;exact⟨_,rfl,⟨1,_,_,rfl,PtIs.leaf _ _ _⟩,h6.farAll aE _ 0,QP aP (cZ _) _ 0⟩
def more(c:List Wlx.TV->PR)(k:Int):Nat->List Wt.Nd->List Wlx.TV->PR
 |0,row,ts=>.inl (row,ts)
 |n+1,row,ts=>match Jc k ts with
  |none=>.inl (row,ts)
  |some (o,r)=>match c r with
   | .inr e=>.inr e
   | .inl (row2,r2)=>more c k n (opN (Qy o.2.2) o.1::(row++row2)) r2
def pct:Nat->List Wt.Nd->List Wlx.TV->PR
 |0,row,ts=>.inl (row,ts)
 |n+1,row,ts=>match Jc 6 ts with
  |none=>.inl (row,ts)
  |some (o,r)=>pct n (opN (Qy o.2.2) o.1::row) r
def Jo(d:List Wlx.TV->PR)(en:Int):Nat->Nat->List Wt.Nd->List Wlx.TV->(Nat×List Wt.Nd×List Wlx.TV)⊕(Int×Int)
 |0,_,_,ts=>.inr (50,pos ts en)
 |n+1,c,rows,ts=>match tk ts [41]with
  |some r=>.inl (c,rows,r)
  |none=>if c=30/\Vc (hd ts en) [44]=iX then .inr (3,pos ts en)else
   match tk ts [44]with
   |none=>.inr (50,pos ts en)
   |some r=>match d r with
    | .inr e=>.inr e
    | .inl (row,r2)=>Jo d en n (c+1) (rows++row) r2
def Jw(nm:ByteArray)(c:Nat):Wt.Nd:=⟨6,Wt.v0,0,nm,c,Wt.r0,Wt.r0⟩
def VG(d:List Wlx.TV->PR)(en:Int)(nm:List UInt8)(ts:List Wlx.TV):PR:=match tk ts [41]with
 |some r=>.inl ([Jw ⟨nm.toArray⟩ 0],r)
 |none=>match d ts with
  | .inr e=>.inr e
  | .inl (row,r)=>match Jo d en (r.length+1) 1 row r with
   | .inr e=>.inr e
   | .inl (c,rows,r2)=>.inl (Jw ⟨nm.toArray⟩ c::rows,r2)
def Jq(c:List Wlx.TV->PR)(en:Int)(ts:List Wlx.TV):PR :=
 if fol ts [40]then(if Wt.fnNm ⟨(hd ts en).t.toArray⟩then VG c en (hd ts en).t (ts.drop 2)else .inr (50,pos ts en))
 else if fol ts [33]then(if Wt.shNm ⟨(hd ts en).t.toArray⟩then pcs ⟨(hd ts en).t.toArray⟩ (ts.drop 2) en else .inr (50,pos ts en))
 else if(hd ts en).t=[84,82,85,69]then .inl ([JO (Qd iX)],ts.drop 1)
 else if(hd ts en).t=[70,65,76,83,69]then .inl ([JO (Qd jX)],ts.drop 1)
 else pcs ⟨#[]⟩ ts en
def J2(c:List Wlx.TV->PR)(en:Int)(ts:List Wlx.TV):PR:=match tk ts [40]with
 |none=>.inr (50,pos ts en)
 |some r=>match c r with
  | .inr e=>.inr e
  | .inl (row,r2)=>match tk r2 [41]with
   |none=>.inr (50,pos r2 en)
   |some d=>.inl (row,d)
def lv(en:Int):Nat->Nat->List Wlx.TV->PR
 |0,_,_=>.inr (0,0)
 |f+1,k,ts =>
  if k<5 then(match lv en f (k+1) ts with
   | .inr e=>.inr e
   | .inl (row,r)=>more (lv en f (k+1)) k r.length row r)
  else if k=5 then(match Jc 5 ts with
   |some (o,r)=>(match lv en f 5 r with
    | .inr e=>.inr e
    | .inl (row,r2)=>.inl (opN (Qy o.2.2) o.1::row,r2))
   |none=>lv en f 6 ts)
  else if k=6 then(match lv en f 7 ts with
   | .inr e=>.inr e
   | .inl (row,r)=>pct r.length row r)
  else if(hd ts en).k=3 then Jq (lv en f 0) en ts
  else if(hd ts en).k=5 then J2 (lv en f 0) en ts
  else pl ts en
theorem Qx{m:List UInt8}(h:tk ts m=hX r):r <:+ ts/\r.length<ts.length:=by
 cases ts with
 |nil=>cases h
 |cons t q =>
  have:=zH8 h;subst this;exact⟨pY _ _,sM⟩
theorem Qm{k:Int}{o:Int×List UInt8×Int}(h:Jc k ts=hX (o,r)):r <:+ ts/\r.length<ts.length:=by
 cases ts with
 |nil=>cases h
 |cons t q =>
  unfold Jc at h;simp only at h;split at h
  ·cases c:Wt.opAs t.t k with
   |none=>rw[c]at h;cases h
   |some x =>
    rw[c]at h;simp only[Option.map_some,Option.some.injEq,Prod.mk.injEq]at h;rw[<-h.2];exact⟨pY _ _,sM⟩
  ·cases h
theorem zHd{a:Wt.Rf}(h:pc ts en=.inl (a,r)):r <:+ ts:=by
 rw[zFC h];exact qY _
theorem zPZ{row:List Wt.Nd}(h:pl ts en=.inl (row,r)):r <:+ ts:=by
 unfold pl at h;split at h
 ·simp only[Sum.inl.injEq,Prod.mk.injEq]at h;rw[<-h.2];exact qY _
 ·cases h
theorem zHu{s:ByteArray}{row:List Wt.Nd}(h:pcs s ts en=.inl (row,r)):r <:+ ts:=by
 unfold pcs at h;cases c:pc ts en with
 |inr e=>rw[c]at h;cases h
 |inl q =>
  obtain⟨a,i⟩:=q;rw[c]at h;simp only at h;have g:=zHd c;cases d:tk i [58]with
  |none=>rw[d]at h;simp only[Sum.inl.injEq,Prod.mk.injEq]at h;rw[<-h.2];exact g
  |some j =>
   rw[d]at h;simp only at h;have o:=(Qx d).1;cases f:pc j en with
   |inr e=>rw[f]at h;cases h
   |inl q =>
    obtain⟨b,t⟩:=q;rw[f]at h;simp only[Sum.inl.injEq,Prod.mk.injEq]at h;rw[<-h.2];exact((zHd f).trans o).trans g
theorem zM2{d:List Wlx.TV->PR}(f:∀ts row r,d ts=.inl (row,r)->r <:+ ts)(k:Int):∀(n:Nat)(row:List Wt.Nd)(ts:List Wlx.TV)(c:List Wt.Nd)(r:List Wlx.TV),more d k n row ts=.inl (c,r)->r <:+ ts:=by
 intro n;induction n with
 |zero=>intro row ts c r h;simp only[more,Sum.inl.injEq,Prod.mk.injEq]at h;rw[<-h.2];exact qZ _
 |succ n s =>
  intro row ts c r h;simp only[more]at h;cases g:Jc k ts with
  |none=>rw[g]at h;simp only[Sum.inl.injEq,Prod.mk.injEq]at h;rw[<-h.2];exact qZ _
  |some q =>
   obtain⟨o,t⟩:=q;rw[g]at h;simp only at h;cases i:d t with
   |inr e=>rw[i]at h;cases h
   |inl q =>
    obtain⟨j,u⟩:=q;rw[i]at h;simp only at h;exact((s _ _ _ _ h).trans (f _ _ _ i)).trans (Qm g).1
theorem zLm{g:List Wlx.TV->PR}(i:∀ts row r,g ts=.inl (row,r)->r <:+ ts)(en:Int):∀(n c:Nat)(f:List Wt.Nd)(ts:List Wlx.TV)(j:Nat)(d:List Wt.Nd)(r:List Wlx.TV),Jo g en n c f ts=.inl (j,d,r)->r <:+ ts:=by
 intro n;induction n with
 |zero=>intro c f ts j d r h;cases h
 |succ n u =>
  intro c f ts j d r h;simp only[Jo]at h;cases o:tk ts [41]with
  |some q=>rw[o]at h;simp only[Sum.inl.injEq,Prod.mk.injEq]at h;rw[<-h.2.2];exact(Qx o).1
  |none =>
   rw[o]at h;simp only at h;split at h
   ·cases h
   ·cases s:tk ts [44]with
    |none=>rw[s]at h;cases h
    |some y =>
     rw[s]at h;simp only at h;cases t:g y with
     |inr e=>rw[t]at h;cases h
     |inl q =>
      obtain⟨row,A⟩:=q;rw[t]at h;simp only at h;exact((u _ _ _ _ _ _ h).trans (i _ _ _ t)).trans (Qx s).1
theorem zIh{d:List Wlx.TV->PR}(f:∀ts row r,d ts=.inl (row,r)->r <:+ ts)(en:Int)(nm:List UInt8)(ts:List Wlx.TV)(row:List Wt.Nd)(r:List Wlx.TV)(h:VG d en nm ts=.inl (row,r)):r <:+ ts:=by
 unfold VG at h;cases i:tk ts [41]with
 |some q=>rw[i]at h;simp only[Sum.inl.injEq,Prod.mk.injEq]at h;rw[<-h.2];exact(Qx i).1
 |none =>
  rw[i]at h;simp only at h;cases j:d ts with
  |inr e=>rw[j]at h;cases h
  |inl q =>
   obtain⟨g,s⟩:=q;rw[j]at h;simp only at h;cases o:Jo d en (s.length+1) 1 g s with
   |inr e=>rw[o]at h;cases h
   |inl q =>
    obtain⟨c,t,u⟩:=q;rw[o]at h;simp only[Sum.inl.injEq,Prod.mk.injEq]at h;rw[<-h.2];exact(zLm f en _ _ _ _ _ _ _ o).trans (f _ _ _ j)
theorem zI3{d:List Wlx.TV->PR}(c:∀ts row r,d ts=.inl (row,r)->r <:+ ts)(en:Int)(ts:List Wlx.TV)(row:List Wt.Nd)(r:List Wlx.TV)(h:Jq d en ts=.inl (row,r)):r <:+ ts:=by
 unfold Jq at h;split at h
 ·split at h
  ·exact(zIh c _ _ _ _ _ h).trans (wZ _ _)
  ·cases h
 split at h
 ·split at h
  ·exact(zHu h).trans (wZ _ _)
  ·cases h
 split at h
 ·simp only[Sum.inl.injEq,Prod.mk.injEq]at h;rw[<-h.2];exact wZ _ _
 split at h
 ·simp only[Sum.inl.injEq,Prod.mk.injEq]at h;rw[<-h.2];exact wZ _ _
 ·exact zHu h
theorem zGd{c:List Wlx.TV->PR}(d:∀ts row r,c ts=.inl (row,r)->r <:+ ts)(en:Int)(ts:List Wlx.TV)(row:List Wt.Nd)(r:List Wlx.TV)(h:J2 c en ts=.inl (row,r)):r <:+ ts:=by
 unfold J2 at h;cases f:tk ts [40]with
 |none=>rw[f]at h;cases h
 |some o =>
  rw[f]at h;simp only at h;cases g:c o with
  |inr e=>rw[g]at h;cases h
  |inl q =>
   obtain⟨j,s⟩:=q;rw[g]at h;simp only at h;cases i:tk s [41]with
   |none=>rw[i]at h;cases h
   |some t =>
    rw[i]at h;simp only[Sum.inl.injEq,Prod.mk.injEq]at h;rw[<-h.2];exact((Qx i).1.trans (d _ _ _ g)).trans (Qx f).1
theorem zNa:∀(n:Nat)(row:List Wt.Nd)(ts:List Wlx.TV)(c:List Wt.Nd)(r:List Wlx.TV),pct n row ts=.inl (c,r)->r <:+ ts:=by
 intro n;induction n with
 |zero=>intro row ts c r h;simp only[pct,Sum.inl.injEq,Prod.mk.injEq]at h;rw[<-h.2];exact qZ _
 |succ n f =>
  intro row ts c r h;simp only[pct]at h;cases d:Jc 6 ts with
  |none=>rw[d]at h;simp only[Sum.inl.injEq,Prod.mk.injEq]at h;rw[<-h.2];exact qZ _
  |some q =>
   obtain⟨o,g⟩:=q;rw[d]at h;simp only at h;exact(f _ _ _ _ h).trans (Qm d).1
theorem JX(en:Int):∀(f k:Nat)(ts:List Wlx.TV)(row:List Wt.Nd)(r:List Wlx.TV),lv en f k ts=.inl (row,r)->r <:+ ts:=by
 intro f;induction f with
 |zero=>intro k ts row r h;cases h
 |succ f d =>
  intro k ts row r h;simp only[lv]at h;split at h
  ·cases c:lv en f (k+1) ts with
   |inr e=>rw[c]at h;cases h
   |inl q =>
    obtain⟨g,j⟩:=q;rw[c]at h;simp only at h;exact(zM2 (d (k+1)) _ _ _ _ _ _ h).trans (d _ _ _ _ c)
  split at h
  ·cases c:Jc 5 ts with
   |none=>rw[c]at h;exact d _ _ _ _ h
   |some q =>
    obtain⟨o,j⟩:=q;rw[c]at h;simp only at h;cases i:lv en f 5 j with
    |inr e=>rw[i]at h;cases h
    |inl q =>
     obtain⟨s,t⟩:=q;rw[i]at h;simp only[Sum.inl.injEq,Prod.mk.injEq]at h;rw[<-h.2];exact(d _ _ _ _ i).trans (Qm c).1
  split at h
  ·cases c:lv en f 7 ts with
   |inr e=>rw[c]at h;cases h
   |inl q =>
    obtain⟨g,j⟩:=q;rw[c]at h;simp only at h;exact(zNa _ _ _ _ _ h).trans (d _ _ _ _ c)
  split at h
  ·exact zI3 (d 0) _ _ _ _ h
  split at h
  ·exact zGd (d 0) _ _ _ _ h
  ·exact zPZ h
def zCQ(kp:Nat)(en:Int)(c:List Wlx.TV->PR)(n:Nat):Prop :=
 ∀(ts:List Wlx.TV)(w:wW),PSt w kp ts en->ts.length<=n->ts.length<=1024->(∀t∈ts,Qe t)->Env w->cW prog 111 #[pX (hX ⟨kp,0,fX⟩)] w λe w'=>QS kp en (c ts) w e w'
theorem zEA(kp:Nat)(en:Int)(X:List Wlx.TV->PR)(n:Nat)(HF:zCQ kp en X n)(ae:∀ts row r,X ts=.inl (row,r)->r <:+ ts)(ts:List Wlx.TV)(w:wW)(h:PSt w kp ts en)(hn:ts.length<=n+1)(an:ts.length<=1024)(al:∀t∈ts,Qe t)(hE:Env w)(T:8<=kp) :
  cW prog 248 #[pX (hX ⟨kp,0,fX⟩)] w λe w'=>QS kp en (J2 X en ts) w e w':=by
 have o:=QI (bZ _ w) (Z zP0 150);have pZ:AtL (w.alloc (Z zP0 150)) w.heap.size (QJ (bare 0) (U fX 0 0)):=AtL.new0 w _ _;have h0:=h.below o;have y:=hE.below o;have aj:=h.lt;have E:=Qv kp ts en [40] _ h0 an;unfold J2;cases ht:tk ts [40]with
 |none =>
  rw[ht]at E;simp only[QS]at E ⊢;have M0:=λw h=>Qp kp ts en w h
  unfold J1 at M0 ⊢;go_enter func248,ntmps248;go_wp2_with fail
  generalize w.alloc (Z zP0 150)=wa at*;refine E.mono ?_;rintro e w1 ⟨rfl,S,d⟩;have u:=pZ.grown d (by intro e;have:=Option.some.inj e;omega);have s:=QC (QD o (hX kp)) d;have A:=y.grown d T;clear pZ h0 o y E d;go_wp2_with fail
  refine(M0 _ S).mono ?_;rintro e f ⟨rfl,hb⟩;go_wp2;exact⟨rfl,rfl,QC s (QD hb (hX kp))⟩
 |some r =>
  rw[ht]at E;obtain⟨af,ar⟩:=Qx ht;have N:∀t∈r,Qe t:=λt h=>al t (af.subset h)
  simp only at E ⊢;cases hs:X r with
  |inr q =>
   obtain⟨c,p⟩:=q;simp only[QS];go_enter func248,ntmps248;go_wp2_with fail
   generalize w.alloc (Z zP0 150)=wa at*;refine E.mono ?_;rintro e w1 ⟨rfl,S,d⟩;have u:=pZ.grown d (by intro e;have:=Option.some.inj e;omega);have s:=QC (QD o (hX kp)) d;have A:=y.grown d T;clear pZ h0 o y E d;go_wp2_with fail
   refine(Qa kp _).mono ?_;rintro e f ⟨rfl,rfl⟩;go_wp2_with fail
   refine(HF r w1 S oM oM N A).mono ?_;rintro e f L;rw[hs]at L;simp only[QS]at L;obtain⟨rfl,hg⟩:=L;unfold J1;go_wp2;exact⟨rfl,rfl,QC s hg⟩
  |inl q =>
   obtain⟨row,r2⟩:=q;have aq:=(ae _ _ _ hs).length_le;simp only;cases ah:tk r2 [41]with
   |none =>
    simp only[QS];have M0:=λw h=>Qp kp r2 en w h
    unfold J1 at M0 ⊢;go_enter func248,ntmps248;go_wp2_with fail
    generalize w.alloc (Z zP0 150)=wa at*;refine E.mono ?_;rintro e w1 ⟨rfl,S,d⟩;have u:=pZ.grown d (by intro e;have:=Option.some.inj e;omega);have s:=QC (QD o (hX kp)) d;have A:=y.grown d T;clear pZ h0 o y E d;go_wp2_with fail
    refine(Qa kp _).mono ?_;rintro e f ⟨rfl,rfl⟩;go_wp2_with fail
    refine(HF r w1 S oM oM N A).mono ?_;rintro e f L;rw[hs]at L;simp only[QS]at L;obtain⟨v,rfl,hP,h2,M⟩:=L;have ag:w.heap.size<w1.heap.size:=u.lt;have D:=u.grown M (by intro e;have:=Option.some.inj e;omega);have F:=QC s M;obtain⟨nn,x,sl,rfl,hp⟩:=hP;obtain⟨j,len,cap,rfl⟩:=hp.one;clear u s A S;unfold ptV;have C:AtL (f.alloc (Z zP0 150)) f.heap.size (QJ (bare 0) (U fX 0 0)):=AtL.new0 f _ _;have B:eZ (f.alloc (Z zP0 150)) f.heap.size 0 (QJ x (U j len cap)).toArray.size:=C.there;go_upto_region 3 with((with_reducible refine stQ 150 (mX 3) (mX 9) (f.heap.size) 0 (QJ x (U j len cap)).toArray ?_ ?_ ?_);exact B;exact Qr _ _ rfl)
    have g:=Ql (QI (bZ _ f) (Z zP0 150)) (cZ f.heap.size) (QJ x (U j len cap)) 0;have pXpX0:AtL ((f.alloc (Z zP0 150)).setCells f.heap.size 0 (QJ x (U j len cap))) f.heap.size (QJ x (U j len cap)):=C.setAll rfl;have P:=AtL.below g D;have h3:=h2.below g;have H:=QC F (QD g (hX kp));have I:=Pt.below (v:=ptV x (U j len cap)) ⟨nn,x,_,rfl,hp⟩ g;have ak:kp<f.heap.size:=h2.lt;have ao:=D.lt;clear C B g D h2 F hp;generalize(f.alloc (Z zP0 150)).setCells f.heap.size 0 (QJ x (U j len cap))=w3 at*;generalize f.heap.size=kx at*;have R:=Qv kp r2 en [41] w3 h3 oM;rw[ah]at R;simp only at R;go_wp2_with fail
    refine R.mono ?_;rintro e w4 ⟨rfl,h4,i⟩;have ai:=pXpX0.grown i (by intro e;have:=Option.some.inj e;omega);have ab:=P.grown i (by intro e;have:=Option.some.inj e;omega);have ad:=Pt.grown I i oM;have aa:=QC H i;clear pXpX0 P h3 I H R i;go_wp2_with fail
    refine(M0 _ h4).mono ?_;rintro e w5 ⟨rfl,hb⟩;go_wp2;exact⟨rfl,rfl,QC aa (QD hb (hX kp))⟩
   |some r3 =>
    simp only[QS];go_enter func248,ntmps248;go_wp2_with fail
    generalize w.alloc (Z zP0 150)=wa at*;refine E.mono ?_;rintro e w1 ⟨rfl,S,d⟩;have u:=pZ.grown d (by intro e;have:=Option.some.inj e;omega);have s:=QC (QD o (hX kp)) d;have A:=y.grown d T;clear pZ h0 o y E d;go_wp2_with fail
    refine(Qa kp _).mono ?_;rintro e f ⟨rfl,rfl⟩;go_wp2_with fail
    refine(HF r w1 S oM oM N A).mono ?_;rintro e f L;rw[hs]at L;simp only[QS]at L;obtain⟨v,rfl,hP,h2,M⟩:=L;have ag:w.heap.size<w1.heap.size:=u.lt;have D:=u.grown M (by intro e;have:=Option.some.inj e;omega);have F:=QC s M;obtain⟨nn,x,sl,rfl,hp⟩:=hP;obtain⟨j,len,cap,rfl⟩:=hp.one;clear u s A S;unfold ptV;have C:AtL (f.alloc (Z zP0 150)) f.heap.size (QJ (bare 0) (U fX 0 0)):=AtL.new0 f _ _;have B:eZ (f.alloc (Z zP0 150)) f.heap.size 0 (QJ x (U j len cap)).toArray.size:=C.there;go_upto_region 3 with((with_reducible refine stQ 150 (mX 3) (mX 9) (f.heap.size) 0 (QJ x (U j len cap)).toArray ?_ ?_ ?_);exact B;exact Qr _ _ rfl)
    have g:=Ql (QI (bZ _ f) (Z zP0 150)) (cZ f.heap.size) (QJ x (U j len cap)) 0;have pXpX0:AtL ((f.alloc (Z zP0 150)).setCells f.heap.size 0 (QJ x (U j len cap))) f.heap.size (QJ x (U j len cap)):=C.setAll rfl;have P:=AtL.below g D;have h3:=h2.below g;have H:=QC F (QD g (hX kp));have I:=Pt.below (v:=ptV x (U j len cap)) ⟨nn,x,_,rfl,hp⟩ g;have ak:kp<f.heap.size:=h2.lt;have ao:=D.lt;clear C B g D h2 F hp;generalize(f.alloc (Z zP0 150)).setCells f.heap.size 0 (QJ x (U j len cap))=w3 at*;generalize f.heap.size=kx at*;have R:=Qv kp r2 en [41] w3 h3 oM;rw[ah]at R;simp only at R;go_wp2_with fail
    refine R.mono ?_;rintro e w4 ⟨rfl,h4,i⟩;have ai:=pXpX0.grown i (by intro e;have:=Option.some.inj e;omega);have ab:=P.grown i (by intro e;have:=Option.some.inj e;omega);have ad:=Pt.grown I i oM;have aa:=QC H i;clear pXpX0 P h3 I H R i;go_wp2_with fail
    refine(Qa kp _).mono ?_;rintro e w5 ⟨rfl,rfl⟩;have ac:=ai.range;have am:eZ w4 w.heap.size 0 (QJ x (U j len cap)).toArray.size:=ab.there;go_wp2_with (first|((with_reducible refine wpList_load_mid (cs:=QJ x (U j len cap)) ?_ 150 (mX 3) ?_ kx 0 ?_ _ ?_ underlying150 ?_ ?_ ?_);rfl;rfl;rfl;exact ac;rfl;kernel_rfl)|((with_reducible refine stQ 150 (mX 2) (mX 14) (w.heap.size) 0 (QJ x (U j len cap)).toArray ?_ ?_ ?_);exact am;exact Qr _ _ rfl))
    have ap:AtL (w4.setCells w.heap.size 0 (QJ x (U j len cap))) w.heap.size (QJ x (U j len cap)):=ab.setAll rfl;refine bodyPost_ret (QQ rfl _ _ w.heap.size (QJ x (U j len cap)) _ rfl ap.range underlying150 rfl kR) rfl ?_;exact⟨_,rfl,(ad.far oM 0 _).mono oM,h4.farAll aj _ 0,QP aa (cZ _) _ 0⟩
theorem bs1(x:Wt.Nd)(c:Option dW)(len cap:Nat)(w:wW):(Instr.buildSlice 148 1 #[(0,gX (QJ x (U c len cap)).toArray)]).run prog w=.ok (U (hX ⟨w.heap.size,0,fX⟩) 1 1) (w.alloc (Z (QJ x (U c len cap)).toArray 150)):=kR
theorem bs2(x:Wt.Nd)(f:Option dW)(len cap:Nat)(y:Wt.Nd)(g:Option dW)(d c:Nat)(w:wW):(Instr.buildSlice 148 2 #[(0,gX (QJ x (U f len cap)).toArray),(1,gX (QJ y (U g d c)).toArray)]).run prog w=.ok (U (hX ⟨w.heap.size,0,fX⟩) 2 2) (w.alloc (Z (QJ x (U f len cap)++QJ y (U g d c)).toArray 150)):=kR
theorem zNE(y:Operand)(d:op.op=.buildSlice 148 1 #[(0,y)])(x:Wt.Nd)(c:Option dW)(len cap:Nat)(f:a.eval y=gX (QJ x (U c len cap)).toArray)
  (h:K (a.put op.dst (U (hX ⟨w.heap.size,0,fX⟩) 1 1)) (w.alloc (Z (QJ x (U c len cap)).toArray 150))):op.wp prog a w K Q:=by
 unfold Oper.wp execOp;simp only[d,rY,bX,eX,f,Sem.run_bind,Sem.run_pure,Result.andThen_ok,bs1];exact h
theorem zMr(y z:Operand)(i:op.op=.buildSlice 148 2 #[(0,y),(1,z)])(x:Wt.Nd)(f:Option dW)(len cap:Nat)(u:Wt.Nd)(g:Option dW)(d c:Nat)(j:a.eval y=gX (QJ x (U f len cap)).toArray)(o:a.eval z=gX (QJ u (U g d c)).toArray)
  (h:K (a.put op.dst (U (hX ⟨w.heap.size,0,fX⟩) 2 2)) (w.alloc (Z (QJ x (U f len cap)++QJ u (U g d c)).toArray 150))):op.wp prog a w K Q:=by
 unfold Oper.wp execOp;simp only[i,rY,bX,eX,j,o,Sem.run_bind,Sem.run_pure,Result.andThen_ok,bs2];exact h
theorem zBD{d:Array Oper}{c:List Oper}(g:op.guard=fX)(y:Operand)(j:op.op=.buildSlice 148 1 #[(0,y)])(x:Wt.Nd)(f:Option dW)(len cap:Nat)(o:a.eval y=gX (QJ x (U f len cap)).toArray)
  (h:wpList prog d Q c (a.put op.dst (U (hX ⟨w.heap.size,0,fX⟩) 1 1)) (w.alloc (Z (QJ x (U f len cap)).toArray 150))):wpList prog d Q (op::c) a w :=
 wpList_plain g λ_ i=>zNE y j x f len cap o (i _ _ h)
theorem PtIs.inside{w:wW}{G G':Nat->Prop}(c:∀b,G b->b<w.heap.size->G' b):∀(n:Nat){x:Wt.Nd}{sl:vW}{row:List Wt.Nd},PtIs w G n x sl row->PtIs w G' n x sl row
 |0,_,_,_,h=>h
 |n+1,x,sl,row,⟨av,cap,ps,rows,e,hl,hr,hp⟩=>⟨av,cap,ps,rows,e,hl,hr,λi h q=>by
   obtain⟨f,g,j,d,o⟩:=hp i h q;exact⟨f,g,c _ j (zCF d),d,PtIs.inside c n o⟩⟩
theorem PtIs.un{row:List Wt.Nd}(h:PtIs w G n x sl row)(d:G b)(g:w.rangeAt b 0 (QJ x sl)):PtIs w G (n+1) z (U (hX ⟨b,0,fX⟩) 1 1) (z::row):=by
 refine⟨hX ⟨b,0,fX⟩,1,[(x,sl)],[row],rfl,rfl,sM,λi c f=>?_⟩;obtain rfl:i=0:=by simp at c;exact c
 exact⟨b,rfl,d,g,h⟩
theorem PtIs.bin{y:Wt.Nd}{f:vW}{row c:List Wt.Nd}(h:PtIs w G n x sl row)(j:PtIs w G m y f c)(g:G b)(s:w.rangeAt b 0 (QJ x sl))(d:w.rangeAt b 21 (QJ y f)):PtIs w G (max n m+1) z (U (hX ⟨b,0,fX⟩) 2 2) (z::(row++c)):=by
 refine⟨hX ⟨b,0,fX⟩,2,[(x,sl),(y,f)],[row,c],rfl,rfl,sM,λi o q=>?_⟩;match i,o with
 |0,_=>exact⟨b,rfl,g,s,h.upto oM⟩
 |1,_=>exact⟨b,rfl,g,d,j.upto oM⟩
theorem zDW(w:wW)(T:TypeId)(a c:List vW):(w.alloc (Z (a++c).toArray T)).rangeAt w.heap.size 0 a/\(w.alloc (Z (a++c).toArray T)).rangeAt w.heap.size a.length c:=by
 have h:=AtL.new0 w T (a++c);refine⟨λj v d=>?_,λj v d=>?_⟩
 ·rw[eY];exact h.2.1 j v (by rw[List.getElem?_append_left (List.getElem?_eq_some_iff.1 d).1];exact d)
 ·exact h.2.1 (a.length+j) v (by rw[List.getElem?_append_right (Nat.le_add_right _ _),Nat.add_sub_cancel_left];exact d)
def Vw(kp:Nat)(en:Int)(F:Nat)(c:List Wlx.TV->PR)(n:Nat):Prop :=
 ∀(ts:List Wlx.TV)(w:wW),PSt w kp ts en->ts.length<=n->ts.length<=1024->(∀t∈ts,Qe t)->Env w->cW prog F #[pX (hX ⟨kp,0,fX⟩)] w λe w'=>QS kp en (c ts) w e w'
def psg(c d:List Wlx.TV->PR)(ts:List Wlx.TV):PR:=match Jc 5 ts with
 |some (o,r)=>(match c r with
  | .inr e=>.inr e
  | .inl (row,r2)=>.inl (opN (Qy o.2.2) o.1::row,r2))
 |none=>d ts
def psi(en:Int)(d c:List Wlx.TV->PR)(ts:List Wlx.TV):PR :=
 if(hd ts en).k=3 then d ts else if(hd ts en).k=5 then c ts else pl ts en
def zLG(kp:Nat)(en:Int)(k:Nat)(c:List Wlx.TV->PR)(n:Nat):Prop :=
 ∀(ts:List Wlx.TV)(w:wW),PSt w kp ts en->ts.length<=n->ts.length<=1024->(∀t∈ts,Qe t)->Env w->cW prog 145 #[pX (hX ⟨kp,0,fX⟩),O J k] w λe w'=>QS kp en (c ts) w e w'
theorem zFH(kp:Nat)(en:Int)(s:List Wlx.TV->PR)(n:Nat)(N:zLG kp en 0 s n):zCQ kp en s n:=by
 intro ts w h P A y X;have d:=QI (bZ _ w) (Z zP0 150);have E:AtL (w.alloc (Z zP0 150)) w.heap.size (QJ (bare 0) (U fX 0 0)):=AtL.new0 w _ _;have C:=h.below d;have f:=X.below d;have I:=h.lt;cases S:s ts with
 |inr q =>
  obtain⟨c,p⟩:=q;simp only[QS];go_enter func111,ntmps111;have j:=E;have D:=C;have g:=f;have i:=QD d (hX kp);clear E C d f;go_wp2_with fail
  refine(N ts _ D P A y g).mono ?_;rintro e F o;rw[S]at o;simp only[QS]at o;obtain⟨rfl,u⟩:=o;unfold J1;go_wp2;exact⟨rfl,rfl,QC i u⟩
 |inl q =>
  obtain⟨row,r2⟩:=q;simp only[QS];go_enter func111,ntmps111;have j:=E;have D:=C;have g:=f;have i:=QD d (hX kp);clear E C d f;have aa:=j.lt;go_wp2_with fail
  refine(N ts _ D P A y g).mono ?_;rintro e F o;rw[S]at o;simp only[QS]at o;obtain⟨v,rfl,hP,T,u⟩:=o;have B:=j.grown u (by intro e;have:=Option.some.inj e;omega);have H:=QC i u;obtain⟨nn,x,sl,rfl,R⟩:=hP;obtain⟨t,len,cap,rfl⟩:=R.one;have L:eZ F w.heap.size 0 (QJ x (U t len cap)).toArray.size:=B.there;clear j i g D u;unfold ptV;go_wp2_with ((with_reducible refine stQ 150 (mX 2) (mX 4) (w.heap.size) 0 (QJ x (U t len cap)).toArray ?_ ?_ ?_);exact L;exact Qr _ _ rfl)
  have M:AtL (F.setCells w.heap.size 0 (QJ x (U t len cap))) w.heap.size (QJ x (U t len cap)):=B.setAll rfl;refine bodyPost_ret (QQ rfl _ _ w.heap.size (QJ x (U t len cap)) _ rfl M.range underlying150 rfl kR) rfl ?_;exact⟨_,rfl,(Pt.far (show Pt F _ (ptV x (U t len cap)) row from⟨nn,x,_,rfl,R⟩) oM 0 _).mono oM,T.farAll I _ 0,QP H (cZ _) _ 0⟩
def ppc(c:List Wlx.TV->PR)(ts:List Wlx.TV):PR:=match c ts with
 | .inr e=>.inr e
 | .inl (row,r)=>pct r.length row r
theorem zKz(row:List Wt.Nd)(c:List Wlx.TV):pct c.length row c=match Jc 6 c with
  |none=>.inl (row,c)
  |some (o,r)=>pct r.length (opN (Qy o.2.2) o.1::row) r:=by
 cases c with
 |nil=>rfl
 |cons t r =>
  show pct (r.length+1) row (t::r)=_
  simp only[pct];cases h:Jc 6 (t::r)with
  |none=>rfl
  |some q =>
   obtain⟨o,f⟩:=q;have:f=r:=by
    unfold Jc at h;simp only at h;split at h
    ·cases d:Wt.opAs t.t 6 with
     |none=>rw[d]at h;cases h
     |some x=>rw[d]at h;simp only[Option.map_some,Option.some.injEq,Prod.mk.injEq]at h;exact h.2.symm
    ·cases h
   subst this;rfl
theorem zDJ(c:k≠b)(x y z:vW):(((w.setCell ⟨b,0,fX⟩ x).setCell ⟨b,1,fX⟩ y).setCell ⟨b,2,fX⟩ z).heap[k]?=w.heap[k]?:=by
 rw[nZ _ _ _ _ c,nZ _ _ _ _ c,nZ _ _ _ _ c]
theorem zAe(w:wW)(b:Nat)(x y z:vW):w.grownBy (((w.setCell ⟨b,0,fX⟩ x).setCell ⟨b,1,fX⟩ y).setCell ⟨b,2,fX⟩ z) (hX b) :=
 QC (QC (Q8 _ _ _ _) (Q8 _ _ _ _)) (Q8 _ _ _ _)
theorem zAZ(w:wW)(b:Nat):∀(vs:List vW)(o:Nat),w.grownBy (w.setCells b o vs) (hX b):=λvs o=>by
 have h:∀(vs:List vW)(o:Nat)(W:wW),w.grownBy W (hX b)->w.grownBy (W.setCells b o vs) (hX b):=by
  intro vs;induction vs with
  |nil=>intro o W h;exact h
  |cons v r c=>intro o W h;rw[oZ];exact c (o+1) _ (QC h (Q8 W b o v))
 exact h vs o w (World.grownBy.refl _ _)
theorem zFb{kp:Nat}(row:List Wt.Nd)(h:JT kp en us0 (Jc 6 us0) w e w'):∃(o:Int)(m:List UInt8)(t:Int)(q:Bool)(c:List Wlx.TV),e=rX (uX #[gX #[O J o,V ⟨m.toArray⟩,O J t],Y q])/\PSt w' kp c en/\w.grownBy w' (hX kp)/\pct us0.length row us0=(if q then pct c.length (opN (Qy t) o::row) c else .inl (row,c))/\c.length+(if q then 1 else 0)<=us0.length:=by
 rw[zKz];cases d:Jc 6 us0 with
 |none =>
  rw[d]at h;simp only[JT]at h;exact⟨0,[],0,jX,us0,h.1,h.2.1,h.2.2,rfl,sM⟩
 |some z =>
  obtain⟨⟨o,m,t⟩,r⟩:=z;rw[d]at h;simp only[JT]at h;have:=(Qm d).2;exact⟨o,m,t,iX,r,h.1,h.2.1,h.2.2,rfl,by simp;omega⟩
theorem zDQ(kp:Nat)(en:Int)(C:List Wlx.TV->PR)(n:Nat)(HS:Vw kp en 219 C n)(aE:∀ts row r,C ts=.inl (row,r)->r <:+ ts)(ts:List Wlx.TV)(w:wW)(h:PSt w kp ts en)(hn:ts.length<=n)(aF:ts.length<=1024)(aB:∀t∈ts,Qe t)(hE:Env w)(ag:8<=kp) :
  cW prog 199 #[pX (hX ⟨kp,0,fX⟩)] w λe w'=>QS kp en (ppc C ts) w e w':=by
 have L:=QI (bZ _ w) (Z zP0 150);have pZ:AtL (w.alloc (Z zP0 150)) w.heap.size (QJ (bare 0) (U fX 0 0)):=AtL.new0 w _ _;have h0:=h.below L;have S:=hE.below L;have aQ:=h.lt;unfold ppc;cases hs:C ts with
 |inr q =>
  obtain⟨c,p⟩:=q;simp only[QS];go_enter func199,ntmps199;go_wp2_with fail
  generalize w.alloc (Z zP0 150)=wa at*;refine(HS ts _ h0 hn aF aB S).mono ?_;rintro e i H;rw[hs]at H;simp only[QS]at H;obtain⟨rfl,hg⟩:=H;unfold J1;go_wp2;exact⟨rfl,rfl,QC (QD L (hX kp)) hg⟩
 |inl q =>
  obtain⟨row,r1⟩:=q;have a0:=(aE _ _ _ hs).length_le;simp only;obtain⟨R,hR⟩:=xV (pct r1.length row r1)
  rw[hR];go_enter func199,ntmps199;go_wp2_with fail
  generalize w.alloc (Z zP0 150)=wa at*;refine(HS ts _ h0 hn aF aB S).mono ?_;rintro e i H;rw[hs]at H;simp only[QS]at H;obtain⟨v,rfl,hP,h1,hg⟩:=H;have a7:=pZ.lt;have ao:=pZ.grown hg (by intro e;have:=Option.some.inj e;omega);have ax:=QC (QD L (hX kp)) hg;have ar:=S.grown hg ag;obtain⟨I,x,sl,rfl,hp⟩:=hP;obtain⟨d,len,cap,rfl⟩:=hp.one;clear pZ h0 L S hg;unfold ptV;have al:AtL (i.alloc (Z zP0 150)) i.heap.size (QJ (bare 0) (U fX 0 0)):=AtL.new0 i _ _;have aa:eZ (i.alloc (Z zP0 150)) i.heap.size 0 (QJ x (U d len cap)).toArray.size:=al.there;go_upto_region 2 with((with_reducible refine stQ 150 (mX 3) (mX 7) (i.heap.size) 0 (QJ x (U d len cap)).toArray ?_ ?_ ?_);exact aa;exact Qr _ _ rfl)
  have F:=Ql (QI (bZ _ i) (Z zP0 150)) (cZ i.heap.size) (QJ x (U d len cap)) 0;have pXpX0:AtL ((i.alloc (Z zP0 150)).setCells i.heap.size 0 (QJ x (U d len cap))) i.heap.size (QJ x (U d len cap)):=al.setAll rfl;have aL:=AtL.below F ao;have j:=h1.below F;have ad:=ar.below F;have ay:=QC ax (QD F (hX kp));have aC:PtIs i (λb=>w.heap.size+1<=b/\b≠i.heap.size) I x (U d len cap) row:=PtIs.inside (λb M hl=>⟨by have aY:wa.heap.size<=b:=M;omega,oM⟩) I hp;have aD:=PtIs.keep (λk _ j=>F.block k j) I aC;have aR:kp<i.heap.size:=h1.lt;have a8:=ao.lt;clear al aa F ao h1 ar ax hp aC;generalize(i.alloc (Z zP0 150)).setCells i.heap.size 0 (QJ x (U d len cap))=w2 at*;generalize i.heap.size=f at*;have T1:=zAK kp r1 en 6 w2 j oM ad.1;go_wp2_with fail
  refine T1.mono ?_;rintro e w3 H;obtain⟨o,m,t,q,D,rfl,h3,A,hq,ai⟩:=zFb row H;rw[hR]at hq;have E0:=hid hq;have u:=QI (bZ _ w3) (Z #[O J o,V ⟨m.toArray⟩,O J t] 222);have aT:=pXpX0.lt;have a2:=A.size;have A1:=hid (AtL.new0 w3 222 [O J o,V ⟨m.toArray⟩,O J t]);have A2:=hid (AtL.below u (pXpX0.grown A (by intro e;have:=Option.some.inj e;omega)));have A3:=hid (AtL.below u (aL.grown A (by intro e;have:=Option.some.inj e;omega)));have A4:=hid (PtIs.keep (λk _ j=>u.block k j) I (PtIs.keep (λk hk j=>A.block k j (by intro e;have:=Option.some.inj e;have:=hk.1;omega)) I aD));have A5:=h3.below u;have A6:=hid (QC (QC ay A) (QD u (hX kp)));have A7:=(ad.grown A ag).below u;have ah:f<w3.heap.size:=oM;clear H hq T1 u pXpX0 aL j ad ay aD h3 A hR;go_wp2_with fail
  go_loopg [4,5] (D.length+(if q then 1 else 0)) (λgk a b wr=>∃(ko:Nat)(o:Int)(m:List UInt8)(t:Int)(q:Bool)(I:Nat)(x:Wt.Nd)(d:Option dW)(len cap:Nat)(row:List Wt.Nd)(D:List Wlx.TV),a=pX (hX ⟨ko,0,fX⟩)/\b=Y q/\gk=D.length+(if q then 1 else 0)/\D.length+(if q then 1 else 0)<=r1.length/\D.length<=1024/\f<ko/\hH (R=if q then pct D.length (opN (Qy t) o::row) D else .inl (row,D))/\hH (AtL wr ko [O J o,V ⟨m.toArray⟩,O J t])/\hH (AtL wr f (QJ x (U d len cap)))/\hH (AtL wr w.heap.size (QJ (bare 0) (U fX 0 0)))/\hH (PtIs wr (λb=>w.heap.size+1<=b/\b≠f) I x (U d len cap) row)/\PSt wr kp D en/\hH (w.grownBy wr (hX kp))/\Env wr)
  case atStart=>exact⟨w3.heap.size,o,m,t,q,I,x,d,len,cap,row,D,rfl,rfl,rfl,ai,oM,ah,E0,A1,A2,A3,A4,A5,A6,A7⟩
  case round =>
   clear A1 A2 A3 A4 A5 A6 A7 E0 ah;obtain⟨ko,o,m,t,q,I,x,d,len,cap,row,D,rfl,rfl,aP,ai,aS,ah,E,A1,A2,A3,A4,h5,A6,au⟩:=hrel;cases q
   ·have hR:=hid E.out;have g:=A2.out.range;have T:eZ wr w.heap.size 0 (QJ x (U d len cap)).toArray.size:=A3.out.there;clear E;go_wp2_with (first|((with_reducible refine wpList_load_mid (cs:=QJ x (U d len cap)) ?_ 150 (mX 3) ?_ f 0 ?_ _ ?_ underlying150 ?_ ?_ ?_);rfl;rfl;rfl;exact g;rfl;kernel_rfl)|((with_reducible refine stQ 150 (mX 2) (mX 24) (w.heap.size) 0 (QJ x (U d len cap)).toArray ?_ ?_ ?_);exact T;exact Qr _ _ rfl))
    have aq:AtL (wr.setCells w.heap.size 0 (QJ x (U d len cap))) w.heap.size (QJ x (U d len cap)):=A3.out.setAll rfl;refine bodyPost_ret (QQ rfl _ _ w.heap.size (QJ x (U d len cap)) _ rfl aq.range underlying150 rfl kR) rfl ?_;rw[hR.out];simp only[QS];refine⟨_,rfl,?_,h5.farAll aQ _ 0,QP A6.out (cZ _) _ 0⟩;exact(Pt.far (show Pt wr (w.heap.size+1) (ptV x (U d len cap)) row from⟨I,x,_,rfl,PtIs.mono (λb M=>M.1) I A4.out⟩) (sY _) 0 _).mono (iY _)
   ·have aW:D.length+1<=r1.length:=by simpa using ai
    have g:=A2.out.range;obtain⟨c0,c1,c2⟩:=A1.out.f3;have aT:=A2.out.lt;have a5:=A3.out.lt;have a1:=A1.out.lt;go_wp2_with (first|((with_reducible refine wpList_load_mid (cs:=QJ x (U d len cap)) ?_ 150 (mX 3) ?_ f 0 ?_ _ ?_ underlying150 ?_ ?_ ?_);rfl;rfl;rfl;exact g;rfl;kernel_rfl)|((with_reducible refine zBD ?_ (mX 20) ?_ x d len cap ?_ ?_);rfl;rfl;rfl))
    have af:=QI (bZ _ wr) (Z (QJ x (U d len cap)).toArray 150);have pB:=AtL.new0 wr 150 (QJ x (U d len cap));refine(zAH o ⟨m.toArray⟩ t (hX ⟨wr.heap.size,0,fX⟩) 1 1 _).mono ?_;rintro e w6 ⟨rfl,M⟩;have y:=QA af M;have aG:=PtIs.un (G:=λb=>w.heap.size+1<=b/\b≠f) (z:=opN (Qy t) o) (PtIs.keep (λk _ j=>af.block k j) I A4.out) (⟨oM,oM⟩:w.heap.size+1<=wr.heap.size/\wr.heap.size≠f) pB.range;have ab:=PtIs.keep (λk _ j=>M.block k j) _ aG;have aJ:=AtL.below y A1.out;have am:=AtL.below y A2.out;have aM:=AtL.below y A3.out;have h6:=h5.below y;have aw:=au.below y;have az:=QC A6.out (QD y (hX kp));have T:eZ w6 f 0 (QJ (opN (Qy t) o) (U (hX ⟨wr.heap.size,0,fX⟩) 1 1)).toArray.size:=am.there;clear af pB M y aG A1 A2 A3 A4 h5 au A6 g c0 c1 c2;unfold ptV;go_upto_region 6 with((with_reducible refine stQ 150 (mX 3) (mX 22) (f) 0 (QJ (opN (Qy t) o) (U (hX ⟨wr.heap.size,0,fX⟩) 1 1)).toArray ?_ ?_ ?_);exact T;exact Qr _ _ rfl)
    have an:AtL (w6.setCells f 0 (QJ (opN (Qy t) o) (U (hX ⟨wr.heap.size,0,fX⟩) 1 1))) f (QJ (opN (Qy t) o) (U (hX ⟨wr.heap.size,0,fX⟩) 1 1)):=am.setAll rfl;have aK:=aJ.farAll (b:=f) oM 0 (QJ (opN (Qy t) o) (U (hX ⟨wr.heap.size,0,fX⟩) 1 1));have ap:=aM.farAll (b:=f) oM 0 (QJ (opN (Qy t) o) (U (hX ⟨wr.heap.size,0,fX⟩) 1 1));have ac:=PtIs.keep (w':=w6.setCells f 0 (QJ (opN (Qy t) o) (U (hX ⟨wr.heap.size,0,fX⟩) 1 1))) (λk hk _=>zAA f k hk.2 _ 0 w6) _ ab;have h7:=h6.farAll aR (QJ (opN (Qy t) o) (U (hX ⟨wr.heap.size,0,fX⟩) 1 1)) 0;have aA:=QP az (b:=f) oM (QJ (opN (Qy t) o) (U (hX ⟨wr.heap.size,0,fX⟩) 1 1)) 0;have ae:=aw.grown (zAZ w6 f (QJ (opN (Qy t) o) (U (hX ⟨wr.heap.size,0,fX⟩) 1 1)) 0) oM;have a3:=hid (zAJ f (QJ (opN (Qy t) o) (U (hX ⟨wr.heap.size,0,fX⟩) 1 1)) 0 w6);clear am aJ aM ab h6 az aw T;generalize w6.setCells f 0 (QJ (opN (Qy t) o) (U (hX ⟨wr.heap.size,0,fX⟩) 1 1))=X at*;obtain⟨c0,c1,c2⟩:=aK.f3;have s:=QI (bZ _ X) (Z #[O J o,V ⟨m.toArray⟩,O J t] 222);have T8:=zAK kp D en 6 _ (h7.below s) aS (ae.below s).1;go_wp2_with fail
    refine T8.mono ?_;rintro e w8 H;obtain⟨o',m',t',q',P,rfl,h9,B,hq,aX⟩:=zFb (opN (Qy t) o::row) H;have a4:=an.lt;have a6:=ap.lt;have aZ:=h7.lt;have E9:hH (R=if q' then pct P.length (opN (Qy t') o'::opN (Qy t) o::row) P else .inl (opN (Qy t) o::row,P)):=by
     show _=_
     rw[<-hq];exact E.out
    have aI:=(AtL.new0 X 222 [O J o,V ⟨m.toArray⟩,O J t]).grown B (by intro e;have:=Option.some.inj e;omega);have aU:=(AtL.below s an).grown B (by intro e;have:=Option.some.inj e;omega);have aq:=(AtL.below s ap).grown B (by intro e;have:=Option.some.inj e;omega);have N:=PtIs.inside (G':=λb=>(w.heap.size+1<=b/\b≠f)/\b≠X.heap.size) (λb M hl=>⟨M,oM⟩) _ ac;have aH:=PtIs.keep (λk hk j=>B.block k j (by intro e;have:=Option.some.inj e;have:=hk.1.1;omega)) _ (PtIs.keep (λk _ j=>s.block k j) _ N);have aO:=QC (QC aA (QD s (hX kp))) B;have aN:=(ae.below s).grown B ag;clear H hq T8 s an aK ap ac N h7 aA ae B c0 c1 c2 E;obtain⟨c0,c1,c2,f0,f1,f2⟩:=aI.three;have ak:w.heap.size<=X.heap.size:=oM;have aj:=λa b c=>PtIs.mono (G':=λb=>w.heap.size+1<=b/\b≠f) (λb M=>M.1) _ (PtIs.keep (w':=((w8.setCell ⟨X.heap.size,0,fX⟩ a).setCell ⟨X.heap.size,1,fX⟩ b).setCell ⟨X.heap.size,2,fX⟩ c) (λk hk j=>zDJ hk.2 a b c) _ aH)
    go_wp2_with fail
    go_roundg (P.length+(if q' then 1 else 0))
    case rel =>
     have B1:=AtL.put3 aI (O J o') (V ⟨m'.toArray⟩) (O J t');exact⟨X.heap.size,o',m',t',q',_,_,_,_,_,_,P,rfl,rfl,rfl,oM,oM,oM,E9,B1,aU.far3 oM _ _ _,aq.far3 oM _ _ _,aj _ _ _,((h9.far oM _ _).far oM _ _).far oM _ _,QV (QV (QV aO ak _ _) ak _ _) ak _ _,aN.grown (zAe w8 X.heap.size _ _ _) oM⟩
    case measure =>
     have aV:gk=D.length+1:=aP;omega
def nxt(c:List Wlx.TV->PR)(k:Nat)(o t:Int)(row:List Wt.Nd)(d:List Wlx.TV):PR:=match c d with
 | .inr e=>.inr e
 | .inl (row2,r2)=>more c k r2.length (opN (Qy t) o::(row++row2)) r2
theorem zIb{c:List Wlx.TV->PR}(d:∀ts row r,c ts=.inl (row,r)->r <:+ ts)(k:Int):∀(n m:Nat)(row:List Wt.Nd)(ts:List Wlx.TV),ts.length<=n->ts.length<=m->more c k n row ts=more c k m row ts:=by
 intro n;induction n with
 |zero =>
  intro m row ts f g;obtain rfl:=gZ (Nat.le_zero.1 f);cases m <;> rfl
 |succ n s =>
  intro m row ts f g;cases m with
  |zero =>
   obtain rfl:=gZ (Nat.le_zero.1 g);rfl
  |succ m =>
   simp only[more];cases h:Jc k ts with
   |none=>rfl
   |some q =>
    obtain⟨o,r⟩:=q;simp only;have t:=(Qm h).2;cases j:c r with
    |inr e=>rfl
    |inl q =>
     obtain⟨i,u⟩:=q;simp only;have:=(d _ _ _ j).length_le;exact s m _ _ oM oM
theorem zBz{kp:Nat}{c:List Wlx.TV->PR}(d:∀ts row r,c ts=.inl (row,r)->r <:+ ts)(row:List Wt.Nd)(h:JT kp en us0 (Jc k us0) w e w'):∃(o:Int)(m:List UInt8)(t:Int)(q:Bool)(g:List Wlx.TV),e=rX (uX #[gX #[O J o,V ⟨m.toArray⟩,O J t],Y q])/\PSt w' kp g en/\w.grownBy w' (hX kp)/\more c k us0.length row us0=(if q then nxt c k o t row g else .inl (row,g))/\g.length+(if q then 1 else 0)<=us0.length/\g <:+ us0:=by
 cases f:Jc k us0 with
 |none =>
  rw[f]at h;simp only[JT]at h;refine⟨0,[],0,jX,us0,h.1,h.2.1,h.2.2,?_,sM,qZ _⟩;cases us0 with
  |nil=>rfl
  |cons a b=>show more c k (b.length+1) row (a::b)=_;simp only[more,f];rfl
 |some z =>
  obtain⟨⟨o,m,t⟩,r⟩:=z;rw[f]at h;simp only[JT]at h;obtain⟨u,A⟩:=Qm f;refine⟨o,m,t,iX,r,h.1,h.2.1,h.2.2,?_,by simp;omega,u⟩;obtain⟨n,j⟩:∃n,us0.length=n+1:=⟨us0.length-1,oM⟩
  rw[j];simp only[more,f,nxt,if_true];cases s:c r with
  |inr e=>rfl
  |inl q =>
   obtain⟨i,y⟩:=q;simp only;have:=(d _ _ _ s).length_le;exact zIb d _ _ _ _ _ oM (cZ _)
def pbt(c:List Wlx.TV->PR)(k:Nat)(ts:List Wlx.TV):PR:=match c ts with
 | .inr e=>.inr e
 | .inl (row,r)=>more c k r.length row r
theorem zFP(kp:Nat)(en:Int)(k:Nat)(bl:k<5)(aa:List Wlx.TV->PR)(n:Nat)(HB:zLG kp en (k+1) aa n)(ah:∀ts row r,aa ts=.inl (row,r)->r <:+ ts)(ts:List Wlx.TV)(w:wW)(h:PSt w kp ts en)(hn:ts.length<=n)(a8:ts.length<=1024)(aS:∀t∈ts,Qe t)(hE:Env w)(au:8<=kp) :
  cW prog 145 #[pX (hX ⟨kp,0,fX⟩),O J k] w λe w'=>QS kp en (pbt aa k ts) w e w':=by
 have aw:=QI (bZ _ w) (Z zP0 150);have P:AtL (w.alloc (Z zP0 150)) w.heap.size (QJ (bare 0) (U fX 0 0)):=AtL.new0 w _ _;have h0:=h.below aw;have aG:=hE.below aw;have bc:=h.lt;have bm:((k:Int) == 5)=jX:=by rw[beq_eq_false_iff_ne];omega
 have bq:J.wrap ((k:Int)+1)=(k:Int)+1:=IntWalk.i64_in _ oM;have HB:∀(ts:List Wlx.TV)(w:wW),PSt w kp ts en->ts.length<=n->ts.length<=1024->(∀t∈ts,Qe t)->Env w->cW prog 145 #[pX (hX ⟨kp,0,fX⟩),O J ((k:Int)+1)] w λe w'=>QS kp en (aa ts) w e w':=HB
 unfold pbt;cases hs:aa ts with
 |inr q =>
  obtain⟨c,p⟩:=q;simp only[QS];go_enter func145,ntmps145;go_wp2_with fail
  generalize w.alloc (Z zP0 150)=wa at*;refine(HB ts _ h0 hn a8 aS aG).mono ?_;rintro e w1 F;rw[hs]at F;simp only[QS]at F;obtain⟨rfl,N⟩:=F;unfold J1;go_wp2;exact⟨rfl,rfl,QC (QD aw (hX kp)) N⟩
 |inl q =>
  obtain⟨row,r1⟩:=q;have aL:=ah _ _ _ hs;have bn:=aL.length_le;simp only;obtain⟨R,hR⟩:=xV (more aa k r1.length row r1)
  rw[hR];go_enter func145,ntmps145;go_wp2_with fail
  generalize w.alloc (Z zP0 150)=wa at*;refine(HB ts _ h0 hn a8 aS aG).mono ?_;rintro e w1 F;rw[hs]at F;simp only[QS]at F;obtain⟨v,rfl,hP,h1,N⟩:=F;have br:=P.lt;have aY:=P.grown N (by intro e;have:=Option.some.inj e;omega);have a0:=QC (QD aw (hX kp)) N;have aZ:=aG.grown N au;obtain⟨nn,x,sl,rfl,hp⟩:=hP;obtain⟨M,len,cap,rfl⟩:=hp.one;clear P h0 aw aG N;unfold ptV;have aW:AtL (w1.alloc (Z zP0 150)) w1.heap.size (QJ (bare 0) (U fX 0 0)):=AtL.new0 w1 _ _;have aM:eZ (w1.alloc (Z zP0 150)) w1.heap.size 0 (QJ x (U M len cap)).toArray.size:=aW.there;go_upto_region 4 with((with_reducible refine stQ 150 (mX 5) (mX 15) (w1.heap.size) 0 (QJ x (U M len cap)).toArray ?_ ?_ ?_);exact aM;exact Qr _ _ rfl)
  have ar:=Ql (QI (bZ _ w1) (Z zP0 150)) (cZ w1.heap.size) (QJ x (U M len cap)) 0;have pXpX0:AtL ((w1.alloc (Z zP0 150)).setCells w1.heap.size 0 (QJ x (U M len cap))) w1.heap.size (QJ x (U M len cap)):=aW.setAll rfl;have ba:=AtL.below ar aY;have s:=h1.below ar;have aN:=aZ.below ar;have a1:=QC a0 (QD ar (hX kp));have a7:PtIs w1 (λb=>w.heap.size+1<=b/\b≠w1.heap.size) nn x (U M len cap) row:=PtIs.inside (λb A hl=>⟨by have aH:wa.heap.size<=b:=A;omega,oM⟩) nn hp;have ab:=PtIs.keep (λk _ s=>ar.block k s) nn a7;have a4:kp<w1.heap.size:=h1.lt;have bs:=aY.lt;clear aW aM ar aY h1 aZ a0 hp a7;generalize(w1.alloc (Z zP0 150)).setCells w1.heap.size 0 (QJ x (U M len cap))=w2 at*;generalize w1.heap.size=u at*;have T1:=zAK kp r1 en k w2 s oM aN.1;go_wp2_with fail
  refine T1.mono ?_;rintro e i F;obtain⟨o,m,t,q,us,rfl,h3,ak,hq,aR,aJ⟩:=zBz ah row F;rw[hR]at hq;have E0:=hid hq;have f:=QI (bZ _ i) (Z #[O J o,V ⟨m.toArray⟩,O J t] 222);have aV:=pXpX0.lt;have bp:=ak.size;have A1:=hid (AtL.new0 i 222 [O J o,V ⟨m.toArray⟩,O J t]);have A2:=hid (AtL.below f (pXpX0.grown ak (by intro e;have:=Option.some.inj e;omega)));have A3:=hid (AtL.below f (ba.grown ak (by intro e;have:=Option.some.inj e;omega)));have A4:=hid (PtIs.keep (λk _ s=>f.block k s) nn (PtIs.keep (λk hk s=>ak.block k s (by intro e;have:=Option.some.inj e;have:=hk.1;omega)) nn ab));have A5:=h3.below f;have A6:=hid (QC (QC a1 ak) (QD f (hX kp)));have A7:=(aN.grown ak au).below f;have aQ:u<i.heap.size:=oM;have aK:=hid aJ;clear F hq T1 f pXpX0 ba s aN a1 ab h3 ak hR hs;go_wp2_with fail
  go_loopg [6,7] (us.length+(if q then 1 else 0)) (λgk a b wr=>∃(ko:Nat)(o:Int)(m:List UInt8)(t:Int)(q:Bool)(nn:Nat)(x:Wt.Nd)(M:Option dW)(len cap:Nat)(row:List Wt.Nd)(us:List Wlx.TV),a=pX (hX ⟨ko,0,fX⟩)/\b=Y q/\gk=us.length+(if q then 1 else 0)/\us.length+(if q then 1 else 0)<=r1.length/\us.length<=1024/\u<ko/\hH (us <:+ r1)/\hH (R=if q then nxt aa k o t row us else .inl (row,us))/\hH (AtL wr ko [O J o,V ⟨m.toArray⟩,O J t])/\hH (AtL wr u (QJ x (U M len cap)))/\hH (AtL wr w.heap.size (QJ (bare 0) (U fX 0 0)))/\hH (PtIs wr (λb=>w.heap.size+1<=b/\b≠u) nn x (U M len cap) row)/\PSt wr kp us en/\hH (w.grownBy wr (hX kp))/\Env wr)
  case atStart=>exact⟨i.heap.size,o,m,t,q,nn,x,M,len,cap,row,us,rfl,rfl,rfl,aR,oM,aQ,aK,E0,A1,A2,A3,A4,A5,A6,A7⟩
  case round =>
   clear A1 A2 A3 A4 A5 A6 A7 E0 aQ aK aJ;obtain⟨ko,o,m,t,q,nn,x,M,len,cap,row,us,rfl,rfl,a2,aR,aI,aQ,aU,E,A1,A2,A3,A4,h5,A6,g⟩:=hrel;cases q
   ·have hR:=hid E.out;have j:=A2.out.range;have be:eZ wr w.heap.size 0 (QJ x (U M len cap)).toArray.size:=A3.out.there;clear E;go_wp2_with (first|((with_reducible refine wpList_load_mid (cs:=QJ x (U M len cap)) ?_ 150 (mX 5) ?_ u 0 ?_ _ ?_ underlying150 ?_ ?_ ?_);rfl;rfl;rfl;exact j;rfl;kernel_rfl)|((with_reducible refine stQ 150 (mX 4) (mX 38) (w.heap.size) 0 (QJ x (U M len cap)).toArray ?_ ?_ ?_);exact be;exact Qr _ _ rfl))
    have aD:AtL (wr.setCells w.heap.size 0 (QJ x (U M len cap))) w.heap.size (QJ x (U M len cap)):=A3.out.setAll rfl;refine bodyPost_ret (QQ rfl _ _ w.heap.size (QJ x (U M len cap)) _ rfl aD.range underlying150 rfl kR) rfl ?_;rw[hR.out];simp only[QS];refine⟨_,rfl,?_,h5.farAll bc _ 0,QP A6.out (cZ _) _ 0⟩;exact(Pt.far (show Pt wr (w.heap.size+1) (ptV x (U M len cap)) row from⟨nn,x,_,rfl,PtIs.mono (λb A=>A.1) nn A4.out⟩) (sY _) 0 _).mono (iY _)
   ·have bk:us.length+1<=r1.length:=by simpa using aR
    have aq:∀t∈us,Qe t:=λt ht=>aS t (aL.subset (aU.out.subset ht))
    have aV:=A2.out.lt;have a9:=A3.out.lt;have a6:=A1.out.lt;cases hs:aa us with
    |inr q2 =>
     obtain⟨c,p⟩:=q2;have ER:hH (R=.inr (c,p)):=by show _=_;rw[E.out];simp only[if_true,nxt,hs]
     clear E;go_upto_region 7 with fail
     obtain⟨wd,X⟩:∃wd,wd=wr.drew:=⟨_,rfl⟩
     have C:bL wr wd:=by rw[X];exact(bZ _ _).drew
     have bd:wd.heap.size=wr.heap.size:=by rw[X];rfl
     have I:=AtL.below C A1.out;have pXpX0:=AtL.below C A2.out;have P:=AtL.below C A3.out;have ae:=PtIs.keep (λk _ s=>C.block k s) nn A4.out;have hG:=QC A6.out (QD C (hX kp));replace h5:=h5.below C
     replace g:=g.below C
     have j:=pXpX0.range;have aV:=pXpX0.lt;have a9:=P.lt;have a6:=I.lt;refine wp_region_held_drew (S:=OpS ko 0 o ⟨m.toArray⟩ t) kR (by rw[<-X];exact Qq I) (λd=>?_);rw[<-X]at d ⊢;clear X C A1 A2 A3 A4 A6;refine tkQ 0 ?_
     refine tkQ 2 ?_
     refine tkQ 3 ?_
     refine tkQ 4 ?_
     refine wpAnyH_ready (rs:=[1,5]) kR sM ?_;refine AllReadyH.cons (atQ rfl) (λK D=>?_) (AllReadyH.cons (atQ rfl) (λK D=>?_) AllReadyH.nil)
     ·refine wp_load_mid 150 (mX 5) rfl u 0 rfl (QJ x (U M len cap)) _ j underlying150 rfl kR ?_;refine hkQ D (Qq I) (λd=>?_);clear D K
      refine rdQ 5 (λK D=>?_);go_simp
      refine(HB us wd h5 oM aI aq g).mono ?_;rintro e i F;rw[hs]at F;simp only[QS]at F;obtain⟨rfl,N⟩:=F;unfold J1;go_wp2;refine⟨rfl,?_⟩;rw[ER.out];exact⟨rfl,QC hG N⟩
     ·go_simp
      refine(HB us wd h5 oM aI aq g).mono ?_;rintro e i F;rw[hs]at F;simp only[QS]at F;obtain⟨rfl,N⟩:=F;unfold J1;go_wp2;refine⟨rfl,?_⟩;rw[ER.out];exact⟨rfl,QC hG N⟩
    |inl q2 =>
     obtain⟨L,r2⟩:=q2;have az:=ah _ _ _ hs;have bo:=az.length_le;have ER:hH (R=more aa k r2.length (opN (Qy t) o::(row++L)) r2):=by show _=_;rw[E.out];simp only[if_true,nxt,hs]
     clear E;go_upto_region 7 with fail
     obtain⟨wd,X⟩:∃wd,wd=wr.drew:=⟨_,rfl⟩
     have C:bL wr wd:=by rw[X];exact(bZ _ _).drew
     have bd:wd.heap.size=wr.heap.size:=by rw[X];rfl
     have I:=AtL.below C A1.out;have pXpX0:=AtL.below C A2.out;have P:=AtL.below C A3.out;have ae:=PtIs.keep (λk _ s=>C.block k s) nn A4.out;have hG:=QC A6.out (QD C (hX kp));replace h5:=h5.below C
     replace g:=g.below C
     have j:=pXpX0.range;have aV:=pXpX0.lt;have a9:=P.lt;have a6:=I.lt;refine wp_region_held_drew (S:=OpS ko 0 o ⟨m.toArray⟩ t) kR (by rw[<-X];exact Qq I) (λd=>?_);rw[<-X]at d ⊢;clear X C A1 A2 A3 A4 A6;refine tkQ 0 ?_
     refine tkQ 2 ?_
     refine tkQ 3 ?_
     refine tkQ 4 ?_
     refine wpAnyH_ready (rs:=[1,5]) kR sM ?_;refine AllReadyH.cons (atQ rfl) (λK D=>?_) (AllReadyH.cons (atQ rfl) (λK D=>?_) AllReadyH.nil)
     ·refine wp_load_mid 150 (mX 5) rfl u 0 rfl (QJ x (U M len cap)) _ j underlying150 rfl kR ?_;refine hkQ D (Qq I) (λd=>?_);clear D K
      refine rdQ 5 (λK D=>?_);go_simp
      refine(HB us wd h5 oM aI aq g).mono ?_;rintro e i F;rw[hs]at F;simp only[QS]at F;obtain⟨v,rfl,hP,h3,N⟩:=F;obtain⟨n2,y,bj,rfl,ab⟩:=hP;obtain⟨bv,ad,ac,rfl⟩:=ab.one;unfold ptV;go_wp2_with fail
      replace I:=I.grown N (by intro e;have:=Option.some.inj e;omega)
      replace pXpX0:=pXpX0.grown N (by intro e;have:=Option.some.inj e;omega)
      replace P:=P.grown N (by intro e;have:=Option.some.inj e;omega)
      replace ae:=PtIs.keep (λk hk s=>N.block k s (by intro e;have:=Option.some.inj e;have:=hk.1;omega)) nn ae
      have ay:PtIs i (λb=>w.heap.size+1<=b/\b≠u) n2 y (U bv ad ac) L:=PtIs.mono (λb A=>⟨by have aH:wd.heap.size<=b:=A;omega,by have aH:wd.heap.size<=b:=A;omega⟩) n2 ab;replace hG:=QC hG N
      replace g:=g.grown N au
      refine hkQ D (Qq I) (λd=>?_);clear D K N ab h5
      refine rdQ 6 (λK D=>?_);refine zMr (mX 30) (mX 34) rfl x M len cap y bv ad ac rfl rfl ?_;have f:=QI (bZ _ i) (Z (QJ x (U M len cap)++QJ y (U bv ad ac)).toArray 150);obtain⟨aE,aF⟩:=zDW i 150 (QJ x (U M len cap)) (QJ y (U bv ad ac));have bf:=pXpX0.lt;have bh:=P.lt;have af:=PtIs.bin (G:=λb=>w.heap.size+1<=b/\b≠u) (z:=opN (Qy t) o) (PtIs.keep (λk _ s=>f.block k s) nn ae) (PtIs.keep (λk _ s=>f.block k s) n2 ay) (⟨oM,oM⟩:w.heap.size+1<=i.heap.size/\i.heap.size≠u) aE aF;replace h3:=h3.below f
      replace I:=AtL.below f I
      replace pXpX0:=AtL.below f pXpX0
      replace P:=AtL.below f P
      replace hG:=QC hG (QD f (hX kp))
      replace g:=g.below f
      refine hkQ D (Qq I) (λd=>?_);clear D K f aE aF ae ay
      refine rdQ 7 (λK D=>?_);go_simp
      refine(zAH o ⟨m.toArray⟩ t (hX ⟨i.heap.size,0,fX⟩) 2 2 _).mono ?_;rintro e w6 ⟨rfl,A⟩;replace h3:=h3.below A
      replace I:=AtL.below A I
      replace pXpX0:=AtL.below A pXpX0
      replace P:=AtL.below A P
      replace hG:=QC hG (QD A (hX kp))
      replace g:=g.below A
      replace af:=PtIs.keep (λk _ s=>A.block k s) _ af
      clear A;go_wp2_with fail
      refine hkQ D (Qq I) (λd=>?_);clear D K
      refine rdQ 8 (λK D=>?_);unfold ptV;refine wp_store_mid 150 (mX 5) (mX 36) rfl u 0 (QJ (opN (Qy t) o) (U (hX ⟨i.heap.size,0,fX⟩) 2 2)).toArray rfl rfl pXpX0.there kR (Qr _ _ rfl) ?_;have ao:AtL (w6.setCells u 0 (QJ (opN (Qy t) o) (U (hX ⟨i.heap.size,0,fX⟩) 2 2))) u (QJ (opN (Qy t) o) (U (hX ⟨i.heap.size,0,fX⟩) 2 2)):=pXpX0.setAll rfl;have an:=I.farAll (b:=u) oM 0 (QJ (opN (Qy t) o) (U (hX ⟨i.heap.size,0,fX⟩) 2 2));have ap:=P.farAll (b:=u) oM 0 (QJ (opN (Qy t) o) (U (hX ⟨i.heap.size,0,fX⟩) 2 2));have ai:=PtIs.keep (w':=w6.setCells u 0 (QJ (opN (Qy t) o) (U (hX ⟨i.heap.size,0,fX⟩) 2 2))) (λk hk _=>zAA u k hk.2 _ 0 w6) _ af;have h7:=h3.farAll a4 (QJ (opN (Qy t) o) (U (hX ⟨i.heap.size,0,fX⟩) 2 2)) 0;have ax:=QP hG (b:=u) oM (QJ (opN (Qy t) o) (U (hX ⟨i.heap.size,0,fX⟩) 2 2)) 0;have aj:=g.grown (zAZ w6 u (QJ (opN (Qy t) o) (U (hX ⟨i.heap.size,0,fX⟩) 2 2)) 0) oM;refine D.out _ _ (Qq an) (λd=>?_);clear D K pXpX0 I P af h3 hG g j;try simp only[Act.put]
      refine wpAnyH_done kR ?_ _;generalize w6.setCells u 0 (QJ (opN (Qy t) o) (U (hX ⟨i.heap.size,0,fX⟩) 2 2))=w7 at*;obtain⟨c0,c1,c2⟩:=an.f3;have B:=QI (bZ _ w7) (Z #[O J o,V ⟨m.toArray⟩,O J t] 222);have T8:=zAK kp r2 en k _ (h7.below B) oM (aj.below B).1;go_wp2_with fail
      refine T8.mono ?_;rintro e w8 F;obtain⟨o',m',t',q',ag,rfl,h9,H,hq,a5,aT⟩:=zBz ah (opN (Qy t) o::(row++L)) F;have bg:=ao.lt;have bi:=ap.lt;have bb:=h7.lt;have E9:hH (R=if q' then nxt aa k o' t' (opN (Qy t) o::(row++L)) ag else .inl (opN (Qy t) o::(row++L),ag)):=by
       show _=_
       rw[<-hq];exact ER.out
      have aA:=hid ((aT.trans az).trans aU.out);have aC:=(AtL.new0 w7 222 [O J o,V ⟨m.toArray⟩,O J t]).grown H (by intro e;have:=Option.some.inj e;omega);have aX:=(AtL.below B ao).grown H (by intro e;have:=Option.some.inj e;omega);have aD:=(AtL.below B ap).grown H (by intro e;have:=Option.some.inj e;omega);have T:=PtIs.inside (G':=λb=>(w.heap.size+1<=b/\b≠u)/\b≠w7.heap.size) (λb A hl=>⟨A,oM⟩) _ ai;have aB:=PtIs.keep (λk hk s=>H.block k s (by intro e;have:=Option.some.inj e;have:=hk.1.1;omega)) _ (PtIs.keep (λk _ s=>B.block k s) _ T);have aP:=QC (QC ax (QD B (hX kp))) H;have aO:=(aj.below B).grown H au;clear F hq T8 B ao an ap ai T h7 ax aj H c0 c1 c2 ER;obtain⟨c0,c1,c2,f0,f1,f2⟩:=aC.three;have am:w.heap.size<=w7.heap.size:=oM;have al:=λa b c=>PtIs.mono (G':=λb=>w.heap.size+1<=b/\b≠u) (λb A=>A.1) _ (PtIs.keep (w':=((w8.setCell ⟨w7.heap.size,0,fX⟩ a).setCell ⟨w7.heap.size,1,fX⟩ b).setCell ⟨w7.heap.size,2,fX⟩ c) (λk hk s=>zDJ hk.2 a b c) _ aB)
      go_wp2_with fail
      go_roundg (ag.length+(if q' then 1 else 0))
      case rel =>
       have B1:=AtL.put3 aC (O J o') (V ⟨m'.toArray⟩) (O J t');exact⟨w7.heap.size,o',m',t',q',_,_,_,_,_,_,ag,rfl,rfl,rfl,oM,oM,oM,aA,E9,B1,aX.far3 oM _ _ _,aD.far3 oM _ _ _,al _ _ _,((h9.far oM _ _).far oM _ _).far oM _ _,QV (QV (QV aP am _ _) am _ _) am _ _,aO.grown (zAe w8 w7.heap.size _ _ _) oM⟩
      case measure =>
       have a3:gk=us.length+1:=a2;omega
     ·go_simp
      refine(HB us wd h5 oM aI aq g).mono ?_;rintro e i F;rw[hs]at F;simp only[QS]at F;obtain⟨v,rfl,hP,h3,N⟩:=F;obtain⟨n2,y,bj,rfl,ab⟩:=hP;obtain⟨bv,ad,ac,rfl⟩:=ab.one;unfold ptV;go_wp2_with fail
      replace I:=I.grown N (by intro e;have:=Option.some.inj e;omega)
      replace pXpX0:=pXpX0.grown N (by intro e;have:=Option.some.inj e;omega)
      replace P:=P.grown N (by intro e;have:=Option.some.inj e;omega)
      replace ae:=PtIs.keep (λk hk s=>N.block k s (by intro e;have:=Option.some.inj e;have:=hk.1;omega)) nn ae
      have ay:PtIs i (λb=>w.heap.size+1<=b/\b≠u) n2 y (U bv ad ac) L:=PtIs.mono (λb A=>⟨by have aH:wd.heap.size<=b:=A;omega,by have aH:wd.heap.size<=b:=A;omega⟩) n2 ab;replace hG:=QC hG N
      replace g:=g.grown N au
      refine hkQ D (Qq I) (λd=>?_);clear D K N ab h5
      have j:=pXpX0.range;refine rdQ 1 (λK D=>?_);refine wp_load_mid 150 (mX 5) rfl u 0 rfl (QJ x (U M len cap)) _ j underlying150 rfl kR ?_;refine hkQ D (Qq I) (λd=>?_);clear D K
      refine rdQ 6 (λK D=>?_);refine zMr (mX 30) (mX 34) rfl x M len cap y bv ad ac rfl rfl ?_;have f:=QI (bZ _ i) (Z (QJ x (U M len cap)++QJ y (U bv ad ac)).toArray 150);obtain⟨aE,aF⟩:=zDW i 150 (QJ x (U M len cap)) (QJ y (U bv ad ac));have bf:=pXpX0.lt;have bh:=P.lt;have af:=PtIs.bin (G:=λb=>w.heap.size+1<=b/\b≠u) (z:=opN (Qy t) o) (PtIs.keep (λk _ s=>f.block k s) nn ae) (PtIs.keep (λk _ s=>f.block k s) n2 ay) (⟨oM,oM⟩:w.heap.size+1<=i.heap.size/\i.heap.size≠u) aE aF;replace h3:=h3.below f
      replace I:=AtL.below f I
      replace pXpX0:=AtL.below f pXpX0
      replace P:=AtL.below f P
      replace hG:=QC hG (QD f (hX kp))
      replace g:=g.below f
      refine hkQ D (Qq I) (λd=>?_);clear D K f aE aF ae ay
      refine rdQ 7 (λK D=>?_);go_simp
      refine(zAH o ⟨m.toArray⟩ t (hX ⟨i.heap.size,0,fX⟩) 2 2 _).mono ?_;rintro e w6 ⟨rfl,A⟩;replace h3:=h3.below A
      replace I:=AtL.below A I
      replace pXpX0:=AtL.below A pXpX0
      replace P:=AtL.below A P
      replace hG:=QC hG (QD A (hX kp))
      replace g:=g.below A
      replace af:=PtIs.keep (λk _ s=>A.block k s) _ af
      clear A;go_wp2_with fail
      refine hkQ D (Qq I) (λd=>?_);clear D K
      refine rdQ 8 (λK D=>?_);unfold ptV;refine wp_store_mid 150 (mX 5) (mX 36) rfl u 0 (QJ (opN (Qy t) o) (U (hX ⟨i.heap.size,0,fX⟩) 2 2)).toArray rfl rfl pXpX0.there kR (Qr _ _ rfl) ?_;have ao:AtL (w6.setCells u 0 (QJ (opN (Qy t) o) (U (hX ⟨i.heap.size,0,fX⟩) 2 2))) u (QJ (opN (Qy t) o) (U (hX ⟨i.heap.size,0,fX⟩) 2 2)):=pXpX0.setAll rfl;have an:=I.farAll (b:=u) oM 0 (QJ (opN (Qy t) o) (U (hX ⟨i.heap.size,0,fX⟩) 2 2));have ap:=P.farAll (b:=u) oM 0 (QJ (opN (Qy t) o) (U (hX ⟨i.heap.size,0,fX⟩) 2 2));have ai:=PtIs.keep (w':=w6.setCells u 0 (QJ (opN (Qy t) o) (U (hX ⟨i.heap.size,0,fX⟩) 2 2))) (λk hk _=>zAA u k hk.2 _ 0 w6) _ af;have h7:=h3.farAll a4 (QJ (opN (Qy t) o) (U (hX ⟨i.heap.size,0,fX⟩) 2 2)) 0;have ax:=QP hG (b:=u) oM (QJ (opN (Qy t) o) (U (hX ⟨i.heap.size,0,fX⟩) 2 2)) 0;have aj:=g.grown (zAZ w6 u (QJ (opN (Qy t) o) (U (hX ⟨i.heap.size,0,fX⟩) 2 2)) 0) oM;refine D.out _ _ (Qq an) (λd=>?_);clear D K pXpX0 I P af h3 hG g j;try simp only[Act.put]
      refine wpAnyH_done kR ?_ _;generalize w6.setCells u 0 (QJ (opN (Qy t) o) (U (hX ⟨i.heap.size,0,fX⟩) 2 2))=w7 at*;obtain⟨c0,c1,c2⟩:=an.f3;have B:=QI (bZ _ w7) (Z #[O J o,V ⟨m.toArray⟩,O J t] 222);have T8:=zAK kp r2 en k _ (h7.below B) oM (aj.below B).1;go_wp2_with fail
      refine T8.mono ?_;rintro e w8 F;obtain⟨o',m',t',q',ag,rfl,h9,H,hq,a5,aT⟩:=zBz ah (opN (Qy t) o::(row++L)) F;have bg:=ao.lt;have bi:=ap.lt;have bb:=h7.lt;have E9:hH (R=if q' then nxt aa k o' t' (opN (Qy t) o::(row++L)) ag else .inl (opN (Qy t) o::(row++L),ag)):=by
       show _=_
       rw[<-hq];exact ER.out
      have aA:=hid ((aT.trans az).trans aU.out);have aC:=(AtL.new0 w7 222 [O J o,V ⟨m.toArray⟩,O J t]).grown H (by intro e;have:=Option.some.inj e;omega);have aX:=(AtL.below B ao).grown H (by intro e;have:=Option.some.inj e;omega);have aD:=(AtL.below B ap).grown H (by intro e;have:=Option.some.inj e;omega);have T:=PtIs.inside (G':=λb=>(w.heap.size+1<=b/\b≠u)/\b≠w7.heap.size) (λb A hl=>⟨A,oM⟩) _ ai;have aB:=PtIs.keep (λk hk s=>H.block k s (by intro e;have:=Option.some.inj e;have:=hk.1.1;omega)) _ (PtIs.keep (λk _ s=>B.block k s) _ T);have aP:=QC (QC ax (QD B (hX kp))) H;have aO:=(aj.below B).grown H au;clear F hq T8 B ao an ap ai T h7 ax aj H c0 c1 c2 ER;obtain⟨c0,c1,c2,f0,f1,f2⟩:=aC.three;have am:w.heap.size<=w7.heap.size:=oM;have al:=λa b c=>PtIs.mono (G':=λb=>w.heap.size+1<=b/\b≠u) (λb A=>A.1) _ (PtIs.keep (w':=((w8.setCell ⟨w7.heap.size,0,fX⟩ a).setCell ⟨w7.heap.size,1,fX⟩ b).setCell ⟨w7.heap.size,2,fX⟩ c) (λk hk s=>zDJ hk.2 a b c) _ aB)
      go_wp2_with fail
      go_roundg (ag.length+(if q' then 1 else 0))
      case rel =>
       have B1:=AtL.put3 aC (O J o') (V ⟨m'.toArray⟩) (O J t');exact⟨w7.heap.size,o',m',t',q',_,_,_,_,_,_,ag,rfl,rfl,rfl,oM,oM,oM,aA,E9,B1,aX.far3 oM _ _ _,aD.far3 oM _ _ _,al _ _ _,((h9.far oM _ _).far oM _ _).far oM _ _,QV (QV (QV aP am _ _) am _ _) am _ _,aO.grown (zAe w8 w7.heap.size _ _ _) oM⟩
      case measure =>
       have a3:gk=us.length+1:=a2;omega
