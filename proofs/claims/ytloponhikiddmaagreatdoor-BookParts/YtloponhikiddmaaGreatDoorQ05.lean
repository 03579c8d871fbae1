/- Lemmas. -/
import Derived.Test.YtloponhikiddmaaGreatDoorQ04
import Derived.Laws.OwnMore
import Derived.Maps.AppendAt
set_option maxHeartbeats 4000000
set_option maxRecDepth 100000
set_option linter.unusedVariables false
open Go.RowKit.Below renaming refl->bZ
open Nat renaming le_refl->cZ,le_trans->pZ,not_lt_zero->tZ,add_sub_cancel->zZ,lt_or_ge->cY,zero_add->eY,zero_le->gY,zero_mul->nY,le_of_lt->oY
open List renaming length_append->dZ,getD_eq_getElem?_getD->gZ,getElem?_eq_getElem->hZ,getElem?_eq_none->kZ,eq_nil_of_length_eq_zero->oZ,map_cons->qZ,getElem?_append_left->rZ,map_toArray->sZ,getElem_cons_succ->uZ,getElem_cons_zero->vZ,getLastD_concat->xZ,mem_cons_of_mem->yZ,mem_cons_self->bY,map_nil->dY,length_cons->hY,getElem_map->iY,drop_length->lY,drop_zero->mY
open Go.World renaming cell?_setCell_far->eZ,setCell->jZ,frozen?_setCell->wZ,cell?->fY,size_alloc->jY,there->kY
open Array renaming getElem?_modify->fZ
open Go.Result renaming andThen_ok->iZ
open Bool renaming and_eq_true->mZ
open Go.IntKind renaming wrap_i64->nZ
open Go renaming World->wW,Value->vW,Calls->cW
open Go.RowKit renaming Hid->hH
open Go.Value renaming int->O,slice->U,string->V,bool->Y,pointer->pX,agg->gX,tuple->uX
open Go.IntKind renaming i64->J
open Go.Obj renaming cells->Z
open Go.Ending renaming returned->rX
open Go.Operand renaming tmp->mX
namespace Go.Proofs.YtloponhikiddmaaGreatDoor
open Tryz
variable {w w':wW} {mb b:Nat} {F:List (Nat × Int)} {lv:vW}
open Go.RowKit
open Go.ChangeMaps (setBlock heap_setBlock_same heap_setBlock_other)
theorem QZ (w:wW) (b:Nat) (v:vW) {i j:Nat} (h:i ≠ j):(w.setCell ⟨b,i,none⟩ v).cell? ⟨b,j,none⟩=w.cell? ⟨b,j,none⟩:=by
 simp [fY,jZ,fZ];cases w.heap[b]? with
 | none=>rfl
 | some o=>cases o <;> simp [h]
theorem Q6 {i:Nat} {u:vW} (h:w.cell? ⟨b,i,none⟩=some u) (v:vW):(w.setCell ⟨b,i,none⟩ v).cell? ⟨b,i,none⟩=some v:=by
 unfold fY at h;simp only [Option.isSome_none] at h;cases d:w.heap[b]? with
 | none=>rw [d] at h;cases h
 | some o =>
  rw [d] at h;cases o with
  | cells c t f =>
   have e:c[i]? = some u:=by simpa using h
   have g:=(Array.getElem?_eq_some_iff.1 e).1;simp [fY,jZ,fZ,d,g]
  | _=>simp at h
theorem zF8 {d n c x g:Nat} (i:x<d) (e:(U (some ⟨d,0,none⟩) n c).ownBlock=some g):g ∉ [x]:=by
 have f:d=g:=by simpa [Value.ownBlock] using e
 subst f;simp;omega
theorem QU (w:wW) (b i:Nat) (v:vW):w.grownBy (w.setCell ⟨b,i,none⟩ v) (some b) :=
 ⟨rfl,rfl,rfl,by simp [jZ],λk _ c=>by simp [jZ,fZ];intro e;exact absurd (by rw [e]) c⟩
theorem FS.fr {S:List Nat} (h:FS w b mb lv F) (c:Fr S w w') (d:b ∉ S) (f:mb ∉ S) (e:∀ g,lv.ownBlock=some g->g ∉ S):FS w' b mb lv F :=
 ⟨c.cell h.hd d,by rw [c.frozen (Q8 h.hd) d];exact h.hf,Q2 c h.own e,c.cell h.mp d,c.fm h.fm f,h.lt⟩
theorem FS.below (h:FS w b mb lv F) (c:bL w w'):FS w' b mb lv F :=
 h.fr (Fr.of_below [] c) sM sM sM
theorem zQZ:prog.underlying 184=some (.map 258 3):=kR
theorem zH3 (h:FM w mb F) {x:Nat × Int} {k:Nat} (e:F.findIdx? (· == x)=some k):(Instr.lookup 184 (.map (some mb)) (fr2 x) true).run prog w=.ok (uX #[O J ((k:Int)+1),Y true]) w:=by
 obtain ⟨f,c,d⟩:=h;refine zCa (j:=k) zQZ c (zQf _ _ _ _) ?_;rw [d,zQl,e];rfl
theorem zGY (h:FM w mb F) {x:Nat × Int} (e:F.findIdx? (· == x)=none):(Instr.lookup 184 (.map (some mb)) (fr2 x) true).run prog w=.ok (uX #[O J 0,Y false]) w:=by
 obtain ⟨f,c,d⟩:=h;refine zB8 zQZ c (zQf _ _ _ _) ?_ kR;rw [d,zQl,e];rfl
theorem zRY (h:FM w mb F) {x:Nat × Int} (f:F.findIdx? (· == x)=none):∃ w',(Instr.mapUpdate 184 (.map (some mb)) (fr2 x) (O J ((F.length:Int)+1))).run prog w=.ok () w'/\FM w' mb (F++[x])/\w.grownBy w' (some mb):=by
 obtain ⟨e,c,d⟩:=h;refine ⟨_,zE3 zQZ c _ (zQf _ _ _ _) (by rw [d,zQl,f];rfl),⟨e.push ⟨fr2 x,O J ((F.length:Int)+1),F.length⟩,?_,?_⟩,zAX c _⟩
 ·rw [heap_setBlock_same c,dZ];rfl
 ·rw [Array.toList_push,d,zFf];simp
theorem zKD (b mb:Nat) (lv:vW) (F:List (Nat × Int)) (m:Nat) (a:Int) (k:Nat) (w:wW) (f:FS w b mb lv F) (q:F.findIdx? (· == (m,a))=some k) :
  CR 170 #[pX (some ⟨b,1,none⟩),O J (m:Int),O J a] w (O J ((k:Int)+1)):=by
 have o:=QJ (bZ _ w) (Z #[O J (m:Int),O J a] 258);have i:=AtL.new0 w 258 [O J (m:Int),O J a];have e:=FS.below f o;go_enter func170,ntmps170;go_upto_region 2 with fail
 generalize (w.alloc (Z #[O J (m:Int),O J a] 258))=W at *;replace o:=o.drew
 replace i:=AtL.drew i
 replace e:=FS.below e (bZ _ W).drew
 have r0:=i.2.1 0 _ rfl;have p:=i.2.1 1 _ rfl;have j:=e.hd;have l:=e.mp;have g:=zH3 e.fm q;unfold fr2 at g;clear f q i;refine wp_region_held_drew (S:=λW=>W.cell? ⟨b,1,none⟩=some lv/\W.cell? ⟨b,2,none⟩=some (.map (some mb))/\W.cell? ⟨w.heap.size,0,none⟩=some (O J (m:Int))/\W.cell? ⟨w.heap.size,1,none⟩=some (O J a)) kR ⟨j,l,r0,p⟩ (λc=>?_);generalize W.drew=r at *;refine tkQ 0 ?_
 refine tkQ 1 ?_
 refine tkQ 2 ?_
 refine tkQ 3 ?_
 refine tkQ 4 ?_
 refine rdQ 5 (λK d=>?_);go_simp
 refine hkQ d (⟨j,l,r0,p⟩) (λc=>?_);clear d K
 refine tkQ 6 ?_
 refine tkQ 7 ?_
 refine tkQ 8 ?_
 refine rdQ 9 (λK d=>?_);go_simp
 refine hkQ d (⟨j,l,r0,p⟩) (λc=>?_);clear d K
 refine rdQ 10 (λK d=>?_);go_simp
 refine hkQ d (⟨j,l,r0,p⟩) (λc=>?_);clear d K
 refine wpAnyH_done kR ?_ _;clear c g;go_wp2;go_ret;exact ⟨rfl,o⟩
theorem zFe:(prog.info? 258).map (λi=>(i.zero,i.size,i.bytes))=some (some (gX #[O J 0,O J 0]),2,16):=kR
theorem zHw (b mb:Nat) (lv:vW) (F:List (Nat × Int)) (m:Nat) (a:Int) (w:wW) (aa:FS w b mb lv F) (au:F.length<=1000000) (N:F.findIdx? (· == (m,a))=none) :
  cW prog 170 #[pX (some ⟨b,1,none⟩),O J (m:Int),O J a] w λe w'=>e=rX (O J ((F.length:Int)+1))/\(∃ lv',FS w' b mb lv' (F++[(m,a)]))/\Fr (b::mb::lv.ownBlock.toList) w w'/\(∀ u,w.cell? ⟨b,0,none⟩=some u->w'.cell? ⟨b,0,none⟩=some u):=by
 have HG:hH (∀ g,lv.ownBlock=some g->b+1<=g/\g<w.heap.size):=λg e=>QM aa.own e
 have T:=QJ (bZ _ w) (Z #[O J (m:Int),O J a] 258);have X:=AtL.new0 w 258 [O J (m:Int),O J a];have y:=FS.below aa T;go_enter func170,ntmps170;go_upto_region 2 with fail
 generalize (w.alloc (Z #[O J (m:Int),O J a] 258))=W at *;replace T:=T.drew
 replace X:=AtL.drew X
 replace y:=FS.below y (bZ _ W).drew
 have r0:=X.2.1 0 _ rfl;have E:=X.2.1 1 _ rfl;have H:=y.hd;have D:=y.mp;have aq:=zGY y.fm N;unfold fr2 at aq;have HK:=hid N;clear N;refine wp_region_held_drew (S:=λW=>W.cell? ⟨b,1,none⟩=some lv/\W.cell? ⟨b,2,none⟩=some (.map (some mb))/\W.cell? ⟨w.heap.size,0,none⟩=some (O J (m:Int))/\W.cell? ⟨w.heap.size,1,none⟩=some (O J a)) kR ⟨H,D,r0,E⟩ (λd=>?_);generalize W.drew=wd at *;refine tkQ 0 ?_
 refine tkQ 1 ?_
 refine tkQ 2 ?_
 refine tkQ 3 ?_
 refine tkQ 4 ?_
 refine rdQ 5 (λK p=>?_);go_simp
 refine hkQ p (⟨H,D,r0,E⟩) (λd=>?_);clear p K
 refine tkQ 6 ?_
 refine tkQ 7 ?_
 refine tkQ 8 ?_
 refine rdQ 9 (λK p=>?_);go_simp
 refine hkQ p (⟨H,D,r0,E⟩) (λd=>?_);clear p K
 refine rdQ 10 (λK p=>?_);go_simp
 refine hkQ p (⟨H,D,r0,E⟩) (λd=>?_);clear p K
 refine wpAnyH_done kR ?_ _;clear d aq;go_upto_region 4 with fail
 have ap:=(bZ wd.heap.size wd).drew;replace T:=T.drew
 replace X:=AtL.drew X
 replace y:=FS.below y ap
 clear r0 E H D ap;have r0:=X.2.1 0 _ rfl;have E:=X.2.1 1 _ rfl;have H:=y.hd;have D:=y.mp;have f:∀ q:wW,bL q (q.alloc (Z #[O J (m:Int),O J a] 258)):=λq=>QJ (bZ _ q) _
 refine wp_region_held_drew (S:=λW=>W.cell? ⟨b,2,none⟩=some (.map (some mb))/\W.cell? ⟨w.heap.size,0,none⟩=some (O J (m:Int))/\W.cell? ⟨w.heap.size,1,none⟩=some (O J a)) kR ⟨D,r0,E⟩ (λd=>?_);generalize wd.drew=q at *;refine tkQ 0 ?_
 refine tkQ 1 ?_
 refine tkQ 2 ?_
 refine tkQ 3 ?_
 refine tkQ 5 ?_
 refine wpAnyH_ready (rs:=[4,6]) kR sM ?_;refine AllReadyH.cons (atQ rfl) (λK p=>?_) (AllReadyH.cons (atQ rfl) (λK p=>?_) AllReadyH.nil)
 ·go_simp
  refine hkQ p ⟨D,r0,E⟩ (λd=>?_);clear p K
  refine rdQ 6 (λK p=>?_);go_simp
  refine hkQ p (⟨QC (f q) D,QC (f q) r0,QC (f q) E⟩) (λd=>?_);clear p K
  have pN:=AtL.new0 q 258 [O J (m:Int),O J a];replace y:=FS.below y (f q)
  replace T:=QA T (f q)
  replace r0:=QC (f q) r0
  replace E:=QC (f q) E
  replace H:=QC (f q) H
  replace D:=QC (f q) D
  replace X:=AtL.below (f q) X
  generalize (q.alloc (Z #[O J (m:Int),O J a] 258))=wf at *;clear f;obtain ⟨i0,ah,ai,aj,ak⟩:=info_parts zFe;refine rdQ 7 (λK p=>?_);refine wp_append_own _ (mX 28) (mX 30) 185 rfl (b+1) 258 i0 _ 2 16 underlying185 ah ai aj ak rfl dM lv F.length (JZ F) rfl y.own ⟨q.heap.size,0,none⟩ 1 1 (JZ [(m,a)]) rfl rfl (λj u hj=>by have:=pN.2.1 j u hj;rw [show (⟨q.heap.size,0,none⟩:Addr).add j=⟨q.heap.size,j,none⟩ from by simp [Addr.add];intro h;exact h.symm];exact this) (by intro u z;simp [JZ] at z;rcases z with rfl | rfl <;> rfl) (by unfold maxLen;omega) oM (Q8 H) ?_;intro v' C own hg _;obtain ⟨r,c,ev⟩:∃ r c,v'=U (some ⟨r,0,none⟩) (F.length+1) c:=by
   rcases own.2 with ⟨_,h0⟩ | ⟨r,c,ao,e,_⟩
   ·omega
   ·exact ⟨r,c,e⟩
  subst ev;have l:Fr lv.ownBlock.toList wf C:=Fr.of_grown hg (λk e=>by simp [e]);have nb:b ∉ lv.ownBlock.toList:=λe=>by have:=HG.out b (by simpa using e);omega
  have nm:mb ∉ lv.ownBlock.toList:=λe=>by have:=HG.out mb (by simpa using e);have:=y.lt;omega
  have nr:w.heap.size ∉ lv.ownBlock.toList:=λe=>by have:=HG.out w.heap.size (by simpa using e);omega
  have f1:C.frozen? ⟨b,1,none⟩=false:=by rw [l.frozen (Q8 H) nb];exact y.hf
  replace H:=l.cell H nb
  replace D:=l.cell D nb
  replace r0:=l.cell r0 nr
  replace E:=l.cell E nr
  have ae:=l.fm y.fm nm;have FB:Fr (b::mb::lv.ownBlock.toList) w C:=(Fr.of_below _ T).trans (l.mono (λk N=>by simp [N]));have ac:hH (∀ u,w.cell? ⟨b,0,none⟩=some u->C.cell? ⟨b,0,none⟩=some u):=λu z=>l.cell (QC T z) nb
  refine hkQ p ⟨D,r0,E⟩ (λd=>?_);clear p K
  refine tkQ 8 ?_
  refine tkQ 9 ?_
  refine rdQ 10 (λK p=>?_);have ar:w.heap.size ≠ b:=by have:=Q8 aa.hd;omega
  have R:(C.setCell ⟨b,1,none⟩ (U (some ⟨r,0,none⟩) (F.length+1) c)).cell? ⟨b,2,none⟩=some (.map (some mb)):=by rw [QZ _ _ _ dM];exact D
  have e0:(C.setCell ⟨b,1,none⟩ (U (some ⟨r,0,none⟩) (F.length+1) c)).cell? ⟨w.heap.size,0,none⟩=some (O J (m:Int)):=by rw [eZ _ _ _ _ (by simp;omega)];exact r0
  have e1:(C.setCell ⟨b,1,none⟩ (U (some ⟨r,0,none⟩) (F.length+1) c)).cell? ⟨w.heap.size,1,none⟩=some (O J a):=by rw [eZ _ _ _ _ (by simp;omega)];exact E
  go_simp
  refine hkQ p ⟨R,e0,e1⟩ (λd=>?_);clear p K
  refine wpAnyH_done kR ?_ _;clear d;have M:Fr [b] C (C.setCell ⟨b,1,none⟩ (U (some ⟨r,0,none⟩) (F.length+1) c)):=Fr.of_grown (QU _ _ _ _) (λk e=>by cases e;simp);have d1:(C.setCell ⟨b,1,none⟩ (U (some ⟨r,0,none⟩) (F.length+1) c)).cell? ⟨b,1,none⟩=some (U (some ⟨r,0,none⟩) (F.length+1) c):=Q6 H _;have d2:(C.setCell ⟨b,1,none⟩ (U (some ⟨r,0,none⟩) (F.length+1) c)).frozen? ⟨b,1,none⟩=false:=by rw [wZ];exact f1
  have gb:=(QM own (g:=r) rfl).1;have s:=Q2 M own (λg e=>zF8 oM e);have L:=M.fm ae (by have:=y.lt;simp;omega);replace FB:=FB.trans (M.mono (λk N=>by simp at N;simp [N]))
  have I:hH (∀ u,w.cell? ⟨b,0,none⟩=some u->(C.setCell ⟨b,1,none⟩ (U (some ⟨r,0,none⟩) (F.length+1) c)).cell? ⟨b,0,none⟩=some u):=λu z=>by rw [QZ _ _ _ dM];exact ac.out u z
  have an:=y.lt;clear ac H D r0 E f1 l M ae own hg nb nm nr pN X y T ah ai aj ak HG;generalize C.setCell ⟨b,1,none⟩ (U (some ⟨r,0,none⟩) (F.length+1) c)=w8 at *;go_upto_region 6 with fail
  have o:=(bZ w8.heap.size w8).drew;replace FB:=FB.trans (Fr.of_below _ o)
  replace I:hH (∀ u,w.cell? ⟨b,0,none⟩=some u->w8.drew.cell? ⟨b,0,none⟩=some u):=λu z=>QC o (I.out u z)
  replace d1:=QC o d1
  replace R:=QC o R
  replace e0:=QC o e0
  replace e1:=QC o e1
  have d2:w8.drew.frozen? ⟨b,1,none⟩=false:=d2;replace s:=Q2 (Fr.of_below [] o) s sM
  replace L:=L.below o
  clear o;refine wp_region_held_drew (S:=λW=>W.cell? ⟨b,2,none⟩=some (.map (some mb))/\W.cell? ⟨w.heap.size,0,none⟩=some (O J (m:Int))/\W.cell? ⟨w.heap.size,1,none⟩=some (O J a)) kR ⟨R,e0,e1⟩ (λd=>?_);generalize w8.drew=w9 at *;refine tkQ 0 ?_
  refine tkQ 1 ?_
  refine tkQ 2 ?_
  refine tkQ 3 ?_
  refine tkQ 4 ?_
  refine tkQ 5 ?_
  obtain ⟨wu,z,af,ag⟩:=zRY L HK.out;unfold fr2 at z;have i:Fr [mb] w9 wu:=Fr.of_grown ag (λk e=>by cases e;simp);have G:b ∉ [mb]:=by simp;omega
  have al:w.heap.size ∉ [mb]:=by have:=Q8 aa.hd;simp;omega
  refine rdQ 6 (λK p=>?_);go_simp
  refine hkQ p (⟨i.cell R G,i.cell e0 al,i.cell e1 al⟩) (λd=>?_);clear p K
  refine wpAnyH_done kR ?_ _;clear d;have ad:FS wu b mb (U (some ⟨r,0,none⟩) (F.length+1) c) (F++[(m,a)]):=⟨i.cell d1 G,by rw [i.frozen (Q8 d1) G];exact d2,by rw [dZ,zB3];exact Q2 i s (λg e=>zF8 oM e),i.cell R G,af,an⟩
  have am:∀ u,w.cell? ⟨b,0,none⟩=some u->wu.cell? ⟨b,0,none⟩=some u:=λu z=>i.cell (I.out u z) G
  have FC:=FB.trans (i.mono (λk N=>by simp at N;simp [N]));have ab:=hid ad;clear ad z af ag i d1 d2 e0 e1 R s L FB I;go_wp2;go_ret;exact ⟨sM,⟨_,ab.out⟩,FC,am⟩
 ·go_simp
  refine hkQ p (⟨QC (f q) D,QC (f q) r0,QC (f q) E⟩) (λd=>?_);clear p K
  have pN:=AtL.new0 q 258 [O J (m:Int),O J a];replace y:=FS.below y (f q)
  replace T:=QA T (f q)
  replace r0:=QC (f q) r0
  replace E:=QC (f q) E
  replace H:=QC (f q) H
  replace D:=QC (f q) D
  replace X:=AtL.below (f q) X
  generalize (q.alloc (Z #[O J (m:Int),O J a] 258))=wf at *;refine rdQ 4 (λK p=>?_);go_simp
  refine hkQ p (⟨D,r0,E⟩) (λd=>?_);clear p K
  clear f;obtain ⟨i0,ah,ai,aj,ak⟩:=info_parts zFe;refine rdQ 7 (λK p=>?_);refine wp_append_own _ (mX 28) (mX 30) 185 rfl (b+1) 258 i0 _ 2 16 underlying185 ah ai aj ak rfl dM lv F.length (JZ F) rfl y.own ⟨q.heap.size,0,none⟩ 1 1 (JZ [(m,a)]) rfl rfl (λj u hj=>by have:=pN.2.1 j u hj;rw [show (⟨q.heap.size,0,none⟩:Addr).add j=⟨q.heap.size,j,none⟩ from by simp [Addr.add];intro h;exact h.symm];exact this) (by intro u z;simp [JZ] at z;rcases z with rfl | rfl <;> rfl) (by unfold maxLen;omega) oM (Q8 H) ?_;intro v' C own hg _;obtain ⟨r,c,ev⟩:∃ r c,v'=U (some ⟨r,0,none⟩) (F.length+1) c:=by
   rcases own.2 with ⟨_,h0⟩ | ⟨r,c,ao,e,_⟩
   ·omega
   ·exact ⟨r,c,e⟩
  subst ev;have l:Fr lv.ownBlock.toList wf C:=Fr.of_grown hg (λk e=>by simp [e]);have nb:b ∉ lv.ownBlock.toList:=λe=>by have:=HG.out b (by simpa using e);omega
  have nm:mb ∉ lv.ownBlock.toList:=λe=>by have:=HG.out mb (by simpa using e);have:=y.lt;omega
  have nr:w.heap.size ∉ lv.ownBlock.toList:=λe=>by have:=HG.out w.heap.size (by simpa using e);omega
  have f1:C.frozen? ⟨b,1,none⟩=false:=by rw [l.frozen (Q8 H) nb];exact y.hf
  replace H:=l.cell H nb
  replace D:=l.cell D nb
  replace r0:=l.cell r0 nr
  replace E:=l.cell E nr
  have ae:=l.fm y.fm nm;have FB:Fr (b::mb::lv.ownBlock.toList) w C:=(Fr.of_below _ T).trans (l.mono (λk N=>by simp [N]));have ac:hH (∀ u,w.cell? ⟨b,0,none⟩=some u->C.cell? ⟨b,0,none⟩=some u):=λu z=>l.cell (QC T z) nb
  refine hkQ p ⟨D,r0,E⟩ (λd=>?_);clear p K
  refine tkQ 8 ?_
  refine tkQ 9 ?_
  refine rdQ 10 (λK p=>?_);have ar:w.heap.size ≠ b:=by have:=Q8 aa.hd;omega
  have R:(C.setCell ⟨b,1,none⟩ (U (some ⟨r,0,none⟩) (F.length+1) c)).cell? ⟨b,2,none⟩=some (.map (some mb)):=by rw [QZ _ _ _ dM];exact D
  have e0:(C.setCell ⟨b,1,none⟩ (U (some ⟨r,0,none⟩) (F.length+1) c)).cell? ⟨w.heap.size,0,none⟩=some (O J (m:Int)):=by rw [eZ _ _ _ _ (by simp;omega)];exact r0
  have e1:(C.setCell ⟨b,1,none⟩ (U (some ⟨r,0,none⟩) (F.length+1) c)).cell? ⟨w.heap.size,1,none⟩=some (O J a):=by rw [eZ _ _ _ _ (by simp;omega)];exact E
  go_simp
  refine hkQ p ⟨R,e0,e1⟩ (λd=>?_);clear p K
  refine wpAnyH_done kR ?_ _;clear d;have M:Fr [b] C (C.setCell ⟨b,1,none⟩ (U (some ⟨r,0,none⟩) (F.length+1) c)):=Fr.of_grown (QU _ _ _ _) (λk e=>by cases e;simp);have d1:(C.setCell ⟨b,1,none⟩ (U (some ⟨r,0,none⟩) (F.length+1) c)).cell? ⟨b,1,none⟩=some (U (some ⟨r,0,none⟩) (F.length+1) c):=Q6 H _;have d2:(C.setCell ⟨b,1,none⟩ (U (some ⟨r,0,none⟩) (F.length+1) c)).frozen? ⟨b,1,none⟩=false:=by rw [wZ];exact f1
  have gb:=(QM own (g:=r) rfl).1;have s:=Q2 M own (λg e=>zF8 oM e);have L:=M.fm ae (by have:=y.lt;simp;omega);replace FB:=FB.trans (M.mono (λk N=>by simp at N;simp [N]))
  have I:hH (∀ u,w.cell? ⟨b,0,none⟩=some u->(C.setCell ⟨b,1,none⟩ (U (some ⟨r,0,none⟩) (F.length+1) c)).cell? ⟨b,0,none⟩=some u):=λu z=>by rw [QZ _ _ _ dM];exact ac.out u z
  have an:=y.lt;clear ac H D r0 E f1 l M ae own hg nb nm nr pN X y T ah ai aj ak HG;generalize C.setCell ⟨b,1,none⟩ (U (some ⟨r,0,none⟩) (F.length+1) c)=w8 at *;go_upto_region 6 with fail
  have o:=(bZ w8.heap.size w8).drew;replace FB:=FB.trans (Fr.of_below _ o)
  replace I:hH (∀ u,w.cell? ⟨b,0,none⟩=some u->w8.drew.cell? ⟨b,0,none⟩=some u):=λu z=>QC o (I.out u z)
  replace d1:=QC o d1
  replace R:=QC o R
  replace e0:=QC o e0
  replace e1:=QC o e1
  have d2:w8.drew.frozen? ⟨b,1,none⟩=false:=d2;replace s:=Q2 (Fr.of_below [] o) s sM
  replace L:=L.below o
  clear o;refine wp_region_held_drew (S:=λW=>W.cell? ⟨b,2,none⟩=some (.map (some mb))/\W.cell? ⟨w.heap.size,0,none⟩=some (O J (m:Int))/\W.cell? ⟨w.heap.size,1,none⟩=some (O J a)) kR ⟨R,e0,e1⟩ (λd=>?_);generalize w8.drew=w9 at *;refine tkQ 0 ?_
  refine tkQ 1 ?_
  refine tkQ 2 ?_
  refine tkQ 3 ?_
  refine tkQ 4 ?_
  refine tkQ 5 ?_
  obtain ⟨wu,z,af,ag⟩:=zRY L HK.out;unfold fr2 at z;have i:Fr [mb] w9 wu:=Fr.of_grown ag (λk e=>by cases e;simp);have G:b ∉ [mb]:=by simp;omega
  have al:w.heap.size ∉ [mb]:=by have:=Q8 aa.hd;simp;omega
  refine rdQ 6 (λK p=>?_);go_simp
  refine hkQ p (⟨i.cell R G,i.cell e0 al,i.cell e1 al⟩) (λd=>?_);clear p K
  refine wpAnyH_done kR ?_ _;clear d;have ad:FS wu b mb (U (some ⟨r,0,none⟩) (F.length+1) c) (F++[(m,a)]):=⟨i.cell d1 G,by rw [i.frozen (Q8 d1) G];exact d2,by rw [dZ,zB3];exact Q2 i s (λg e=>zF8 oM e),i.cell R G,af,an⟩
  have am:∀ u,w.cell? ⟨b,0,none⟩=some u->wu.cell? ⟨b,0,none⟩=some u:=λu z=>i.cell (I.out u z) G
  have FC:=FB.trans (i.mono (λk N=>by simp at N;simp [N]));have ab:hH (FS wu b mb (U (some ⟨r,0,none⟩) (F.length+1) c) (F++[(m,a)])):=ad;clear ad z af ag i d1 d2 e0 e1 R s L FB I;go_wp2;go_ret;exact ⟨sM,⟨_,ab.out⟩,FC,am⟩
end Go.Proofs.YtloponhikiddmaaGreatDoor
namespace Go.Proofs.YtloponhikiddmaaGreatDoor.Wc
def rw0 (F:List (Nat × Int)) (m:Nat):List Int:=V8 F m m
theorem zFs (F:List (Nat × Int)):rw0 F 0=[]:=rfl
theorem zJo {F:List (Nat × Int)} (h:Rows F) (x:Nat × Int) {m:Nat} (c:m<=F.length):rw0 (F++[x]) m=rw0 F m:=zMK h x m m c
theorem zNU {F:List (Nat × Int)} (h:Rows F) {m n:Nat} (c:m<=F.length) (d:n<=F.length) (e:rw0 F m=rw0 F n):m=n:=by
 unfold rw0 at e;rw [zBu h m m F.length (cZ _) c c,zBu h n n F.length (cZ _) d d] at e;exact zK3 h F.length m n c d c d e
theorem zC2 {F:List (Nat × Int)} (h:Rows F) {k:Nat} {x:Nat × Int} (e:F[k]? = some x):rw0 F (k+1)=rw0 F x.1++[x.2]:=by
 have d:k<F.length:=by
  rcases cY k F.length with g | g
  ·exact g
  ·rw [kZ g] at e;cases e
 have c:=h.ahead k x e;unfold rw0;rw [JB F k k x e,zBu h k x.1 x.1 c (cZ _) oM]
def handP (h:Int × Nat):List Int->List (Option (Int × Nat))->Option (List (Option (Int × Nat)))
 | [],M=>some M
 | j::r,M=>match M.getD j.toNat none with
  | none=>handP h r (M.set j.toNat (some h))
  | some g=>if g=h then handP h r (M.set j.toNat (some h)) else none
def behF (F:List (Nat × Int)) (o a:Int) (m:Nat):Option (Nat × List (Nat × Int)) :=
 if o=6 then (match F.findIdx? (· == (m,a)) with | some k=>some (k+1,F) | none=>some (F.length+1,F++[(m,a)]))
 else if o=7 then (if m=0 then none else some (m,F))
 else if o=8 then (if m=0 \/ pairs (F.getD (m - 1) (0,0)).2=true then none else some (m,F))
 else if o=9 then (if m=0 \/ pairs (F.getD (m - 1) (0,0)).2=false then none else some (m,F))
 else if o=10 then (if m=0 then none else some ((F.getD (m - 1) (0,0)).1,F))
 else if o=16 then (if m=0 then some (m,F) else none)
 else some (m,F)
abbrev PS:=List (Option (Int × Nat)) × List (Nat × Int)
def stepP (i:Nat) (o a b:Int) (c:List Int) (s:PS):Option PS :=
 match s.1.getD i none with
 | none=>none
 | some (v,m)=>match behF s.2 o a m with
  | none=>none
  | some (m2,F2)=>if v<(swO o b).1 \/ (o=16/\(swO o b).1<v) then none else
   match handP (v - (swO o b).1+(swO o b).2,m2) (onw o a b c i).1 s.1 with
   | none=>none
   | some d=>match handP (v,m) (onw o a b c i).2 d with
    | none=>none
    | some e=>some (e,F2)
def Ve (o a:Int) (f:List Int):List Int:=if o=6 then f++[a] else if o=10 then f.dropLast else f
def zRr (n i:Nat) (o b:Int) (v:Int) (f:List Int):Bool :=
 decide (¬(o=16/\i+1<n)/\(nds o b).1<=v/\(nds o b).2.1<=f.length/\(o=16->v=1/\f.length=0)/\(o=8 \/ o=9->pairs (f.getLastD 0)=decide (o=9)))
theorem getD_set {α:Type} (l:List (Option α)) (i j:Nat) (x:Option α) (hi:i<l.length):(l.set i x).getD j none=if i=j then x else l.getD j none:=by
 simp only [gZ,List.getElem?_set];by_cases h:i=j
 ·subst h;simp [hi]
 ·simp [h]
theorem ops17 (o:Int):o=6 \/ o=7 \/ o=8 \/ o=9 \/ o=10 \/ o=16 \/ (o ≠ 6/\o ≠ 7/\o ≠ 8/\o ≠ 9/\o ≠ 10/\o ≠ 16):=oM
theorem zJH {F:List (Nat × Int)} (h:Rows F) {m:Nat} (g:m<=F.length) (d:m ≠ 0):(F.getD (m - 1) (0,0)).1<=F.length/\rw0 F m=rw0 F (F.getD (m - 1) (0,0)).1++[(F.getD (m - 1) (0,0)).2]:=by
 cases m with
 | zero=>exact absurd rfl d
 | succ k =>
  obtain ⟨x,c⟩:∃ x,F[k]? = some x:=⟨_,hZ oM⟩
  have e:F.getD (k+1 - 1) (0,0)=x:=by rw [zZ,gZ,c];rfl
  rw [e];have f:=h.ahead k x c;exact ⟨oM,zC2 h c⟩
def bst (o:Int) (f:List Int):Bool :=
 decide ((o=7 \/ o=8 \/ o=9 \/ o=10->1<=f.length)/\(o=16->f.length=0)/\(o=8 \/ o=9->pairs (f.getLastD 0)=decide (o=9)))
structure Beh (F:List (Nat × Int)) (o a:Int) (m m2:Nat) (F2:List (Nat × Int)):Prop where
 rows:Rows F2
 le:F.length<=F2.length
 old:∀ k:Nat,k<=F.length->rw0 F2 k=rw0 F k
 le2:m2<=F2.length
 row:rw0 F2 m2=Ve o a (rw0 F m)
theorem beh_some {F:List (Nat × Int)} (h:Rows F) {o a:Int} {m:Nat} (c:m<=F.length) (r:bst o (rw0 F m)=true):∃ u l,behF F o a m=some (u,l)/\Beh F o a m u l:=by
 simp only [bst,decide_eq_true_eq] at r;obtain ⟨b1,b2,b3⟩:=r;rcases ops17 o with rfl | rfl | rfl | rfl | rfl | rfl | ⟨y,H,I,K,z,L⟩
 ·have e0:behF F 6 a m=(match F.findIdx? (· == (m,a)) with | some k=>some (k+1,F) | none=>some (F.length+1,F++[(m,a)])):=by simp [behF]
  rw [e0];cases e:F.findIdx? (· == (m,a)) with
  | some k =>
   rw [List.findIdx?_eq_some_iff_getElem] at e;obtain ⟨p,D,_⟩:=e;have E:F[k]=(m,a):=by simpa using D
   have G:F[k]? = some (m,a):=by rw [hZ p,E]
   exact ⟨k+1,F,rfl,h,cZ _,λ_ _=>rfl,p,by rw [zC2 h G];simp [Ve]⟩
  | none =>
   rw [List.findIdx?_eq_none_iff] at e;have j:∀ k:Nat,F[k]? ≠ some (m,a):=by
    intro k i;have:=e (m,a) (List.mem_of_getElem? i);simp at this
   have s:=h.app (x:=(m,a)) c j;refine ⟨F.length+1,F++[(m,a)],rfl,s,sM,λk i=>zJo h _ i,sM,?_⟩;have g:(F++[(m,a)])[F.length]? = some (m,a):=sM;rw [zC2 s g,zJo h _ c];simp [Ve]
 all_goals
  try
   have d:m ≠ 0:=by
    intro e;subst e;simp [zFs] at b1
   obtain ⟨N,C⟩:=zJH h c d;rw [C] at b3;simp only [xZ] at b3
 ·exact ⟨m,F,by simp [behF,d],h,cZ _,λ_ _=>rfl,c,by simp [Ve]⟩
 ·have f:=b3 sM;exact ⟨m,F,by simp only [behF];rw [f];simp [d],h,cZ _,λ_ _=>rfl,c,by simp [Ve]⟩
 ·have f:=b3 sM;exact ⟨m,F,by simp only [behF];rw [f];simp [d],h,cZ _,λ_ _=>rfl,c,by simp [Ve]⟩
 ·exact ⟨_,F,by simp [behF,d],h,cZ _,λ_ _=>rfl,N,by rw [C];simp [Ve]⟩
 ·have d:m=0:=by
   have q:=b2 rfl;have M:rw0 F m=rw0 F 0:=by rw [zFs];exact oZ q
   exact zNU h c (gY _) M
  exact ⟨m,F,by simp [behF,d],h,cZ _,λ_ _=>rfl,c,by simp [Ve]⟩
 ·exact ⟨m,F,by simp [behF,y,H,I,K,z,L],h,cZ _,λ_ _=>rfl,c,by simp [Ve,y,z]⟩
theorem beh_none {F:List (Nat × Int)} (h:Rows F) {o a:Int} {m:Nat} (g:m<=F.length) (c:bst o (rw0 F m)=false):behF F o a m=none:=by
 simp only [bst,decide_eq_false_iff_not] at c;rcases ops17 o with rfl | rfl | rfl | rfl | rfl | rfl | ⟨j,l,p,r,s,u⟩
 ·exact absurd ⟨λq=>by omega,λq=>by omega,λq=>by omega⟩ c
 all_goals
  try
   rcases Nat.eq_zero_or_pos m with d | hp
   ·subst d;simp [behF]
   obtain ⟨y,i⟩:=zJH h g oM;have d:m ≠ 0:=oM;rw [i] at c;simp only [xZ,dZ,hY,List.length_nil] at c
 ·exact absurd ⟨λq=>by omega,λq=>by omega,λq=>by omega⟩ c
 ·simp only [behF];cases f:pairs (F.getD (m - 1) (0,0)).2 with
  | true=>simp
  | false=>rw [f] at c;exact absurd ⟨λq=>by omega,λq=>by omega,λq=>rfl⟩ c
 ·simp only [behF];cases f:pairs (F.getD (m - 1) (0,0)).2 with
  | false=>simp
  | true=>rw [f] at c;exact absurd ⟨λq=>by omega,λq=>by omega,λq=>rfl⟩ c
 ·exact absurd ⟨λq=>by omega,λq=>by omega,λq=>by omega⟩ c
 ·have d:m ≠ 0:=by
   intro e;subst e;exact c ⟨λq=>by omega,λ_=>rfl,λq=>by omega⟩
  simp [behF,d]
 ·exact absurd ⟨λq=>by omega,λq=>by omega,λq=>by omega⟩ c
def runP {α:Type} (c:Nat->α->PS->Option PS):Nat->List α->PS->Bool
 | _,[],_=>true
 | i,x::r,s=>match c i x s with
  | none=>false
  | some d=>runP c (i+1) r d
def plc (c:In->List Int->Bool) (n i:Nat) (x:In × List Int):Bool :=
 c x.1 x.2 && (((x.1.op == 16) == (i+1 == n)) && (!(onw x.1.op x.1.a x.1.b x.2 i).1.any (λj=>decide (j<=(i:Int) \/ (n:Int)<=j)) && !(onw x.1.op x.1.a x.1.b x.2 i).2.any (λj=>decide (j<=(i:Int) \/ (n:Int)<=j))))
def plcs (c:In->List Int->Bool) (n:Nat):Nat->List (In × List Int)->Bool
 | _,[]=>true
 | i,x::r=>plc c n i x && plcs c n (i+1) r
theorem plcs_iff (d:In->List Int->Bool) (n:Nat):∀ (l:List (In × List Int)) (i:Nat),plcs d n i l=true ↔ ∀ (k:Nat) (c:k<l.length),plc d n (i+k) (l[k])=true:=by
 intro l;induction l with
 | nil=>intro i;exact ⟨λ_ k c=>absurd c (tZ _),λ_=>rfl⟩
 | cons x r g =>
  intro i;simp only [plcs,mZ,g (i+1)];constructor
  ·rintro ⟨e,f⟩ k c;cases k with
   | zero=>exact e
   | succ q =>
    have:=f q (by simp at c;omega);simp only [uZ];rw [show i+(q+1)=i+1+q from by omega];exact this
  ·intro h;refine ⟨h 0 sM,λk c=>?_⟩;have:=h (k+1) (by simp;omega);simp only [uZ] at this;rw [show i+1+k=i+(k+1) from by omega];exact this
def spI (i:Nat) (x:In × List Int) (s:PS):Option PS:=stepP i x.1.op x.1.a x.1.b x.2 s
def sP (n:Nat):PS:=((List.replicate n none).set 0 (some (0,0)),[])
def chkP (c:In->List Int->Bool) (L:List (In × List Int)):Bool:=plcs c L.length 0 L && (decide (0<L.length) && runP spI 0 L (sP L.length))
theorem zMO {l:List Int} {i n:Nat}:(!l.any (λj=>decide (j<=(i:Int) \/ (n:Int)<=j)))=true ↔ ∀ j ∈ l,(i:Int)<j/\j<(n:Int):=by
 simp only [Bool.not_eq_true',List.any_eq_false,decide_eq_true_eq];exact ⟨λh j c=>by have:=h j c;omega,λh j c=>by have:=h j c;omega⟩
theorem plc_iff (c:In->List Int->Bool) (n i:Nat) (x:In × List Int):plc c n i x=true ↔ c x.1 x.2=true/\(x.1.op=16 ↔ i+1=n)/\(∀ j ∈ (onw x.1.op x.1.a x.1.b x.2 i).1,(i:Int)<j/\j<(n:Int))/\∀ j ∈ (onw x.1.op x.1.a x.1.b x.2 i).2,(i:Int)<j/\j<(n:Int):=by
 unfold plc;rw [mZ,mZ,mZ,zMO,zMO];have e:((x.1.op == 16) == (i+1 == n))=true ↔ (x.1.op=16 ↔ i+1=n):=by
  rw [beq_iff_eq,Bool.eq_iff_iff,beq_iff_eq,beq_iff_eq]
 rw [e]
end Go.Proofs.YtloponhikiddmaaGreatDoor.Wc
namespace Go.Proofs.YtloponhikiddmaaGreatDoor
open Tryz
open Go.RowKit
variable {w w' w1 w2:wW} {x:Wt.Nd} {F:List (Nat × Int)} {S:List Nat} {v lv sv:vW} {ops:Array Oper} {rest:List Oper} {a:Act} {Q:Exit->Act->wW->Prop} {n b mb B lo hi b0 pb k bb off:Nat} {op:Oper} {A:List (Wt.Nd × vW)} {P:Program} {fn:Func} {t:Tmp}
def BPost (b mb:Nat) (lv:vW) (w w':wW) (c:List (Nat × Int)):Prop:=(∃ lv',FS w' b mb lv' c)/\Fr (b::mb::lv.ownBlock.toList) w w'/\(∀ u,w.cell? ⟨b,0,none⟩=some u->w'.cell? ⟨b,0,none⟩=some u)
theorem BPost.of_below (h:FS w b mb lv F) (c:bL w w'):BPost b mb lv w w' F:=⟨⟨lv,h.below c⟩,Fr.of_below _ c,λu d=>QC c d⟩
theorem BPost.front (c:bL w w1) (h:BPost b mb lv w1 w2 F):BPost b mb lv w w2 F:=⟨h.1,(Fr.of_below _ c).trans h.2.1,λu d=>h.2.2 u (QC c d)⟩
theorem zMD (b mb:Nat) (lv:vW) (F:List (Nat × Int)) (m:Nat) (a:Int) (w:wW) (c:FS w b mb lv F) (f:F.length<=1000000) :
  cW prog 170 #[pX (some ⟨b,1,none⟩),O J (m:Int),O J a] w λe w'=>∃ k F2,Wc.behF F 6 a m=some (k,F2)/\e=rX (O J (k:Int))/\BPost b mb lv w w' F2:=by
 cases d:F.findIdx? (· == (m,a)) with
 | some k =>
  refine (zKD b mb lv F m a k w c d).mono ?_;rintro e w' ⟨rfl,l⟩;exact ⟨k+1,F,by simp [Wc.behF,d],sM,BPost.of_below c l⟩
 | none =>
  refine (zHw b mb lv F m a w c f d).mono ?_;rintro e w' ⟨rfl,g,i,j⟩;exact ⟨F.length+1,F++[(m,a)],by simp [Wc.behF,d],sM,g,i,j⟩
def VR (F:List (Nat × Int)) (m:Nat):Nat × Int:=if m=0 then (0,0) else F.getD (m - 1) (0,0)
theorem JX (b mb:Nat) (lv:vW) (F:List (Nat × Int)) (m:Nat) (w:wW) (c:FS w b mb lv F) (f:m<=F.length) (d:F.length<=1000000) :
  CR 169 #[pX (some ⟨b,1,none⟩),O J (m:Int)] w (uX #[gX #[O J ((VR F m).1:Int),O J (VR F m).2],Y (decide (m ≠ 0))]):=by
 cases m with
 | zero=>exact zIk b 1 w
 | succ i =>
  have h:=zKm b 1 (F.map λx=>((x.1:Int),x.2)) i w c.list (by simp;omega) (by simpa using d);have e:VR F (i+1)=F[i]'oM:=by
   unfold VR;rw [if_neg oM,zZ,gZ,hZ oM];rfl
  rw [e];simp only [iY] at h;exact h
theorem zKe (x:Wc.In) (tv:vW) (b mb:Nat) (lv:vW) (F:List (Nat × Int)) (m:Nat) (w:wW) (j:FS w b mb lv F) (M:m<=F.length) (l:F.length<=1000000) (L:x.op=6) :
  cW prog 139 #[pX (some ⟨b,1,none⟩),inV x tv,O J (m:Int)] w λe w'=>∃ k o,Wc.behF F 6 x.a m=some (k,o)/\e=rX (uX #[O J (k:Int),Y true])/\BPost b mb lv w w' o:=by
 have pA:=AtL.new0 w 87 (QF x tv);have d:=QJ (bZ _ w) (Z (QF x tv).toArray 87);have g:=λw1 (K:bL w w1)=>JX b mb lv F m w1 (j.below K) M l
 obtain ⟨N,u⟩:∃ t,VR F m=t:=⟨_,rfl⟩
 rw [u] at g;obtain ⟨C,z⟩:=N;simp only at g;obtain ⟨R,r⟩:∃ s,decide (m ≠ 0)=s:=⟨_,rfl⟩
 rw [r] at g;go_enter func139,ntmps139;go_upto_region 1 with fail
 generalize (w.alloc (Z (QF x tv).toArray 87))=W at *;have i:=g W d;clear g;go_wp2_with fail
 refine i.mono ?_;rintro e w1 ⟨rfl,f⟩;replace pA:=AtL.below f pA
 replace d:=QA d f
 have q:(QF x tv)[0]? = some (O J (6)):=by rw [<-L];rfl
 have D:=pA.2.1 0 _ q;have E:=pA.2.1 1 _ rfl;have y:=AtL.new0 w1 258 [O J (C:Int),O J z];have c:=QJ (bZ _ w1) (Z #[O J (C:Int),O J z] 258);replace d:=QA d c
 replace D:=QC c D
 replace E:=QC c E
 have T:=y.2.1 0 _ rfl;have X:=y.2.1 1 _ rfl;clear f pA i y c;go_upto_region 2 with fail
 generalize (w1.alloc (Z #[O J (C:Int),O J z] 258))=H at *;have G:=zMD b mb lv F m x.a H (j.below d) l;go_wp2_with fail
 refine G.mono ?_;rintro e w3 ⟨k,o,p,rfl,I⟩;go_wp2;go_ret2
 exact ⟨k,o,p,rfl,BPost.front d I⟩
theorem zK5 (x:Wc.In) (tv:vW) (b mb:Nat) (lv:vW) (F:List (Nat × Int)) (m:Nat) (w:wW) (l:FS w b mb lv F) (G:m<=F.length) (p:F.length<=1000000) (E:x.op=7) :
  cW prog 139 #[pX (some ⟨b,1,none⟩),inV x tv,O J (m:Int)] w λe w'=>(e=rX (uX #[O J (m:Int),Y (decide (m ≠ 0))]))/\bL w w':=by
 have pA:=AtL.new0 w 87 (QF x tv);have d:=QJ (bZ _ w) (Z (QF x tv).toArray 87);have g:=λw1 (D:bL w w1)=>JX b mb lv F m w1 (l.below D) G p
 obtain ⟨I,q⟩:∃ t,VR F m=t:=⟨_,rfl⟩
 rw [q] at g;obtain ⟨y,u⟩:=I;simp only at g;obtain ⟨H,j⟩:∃ s,decide (m ≠ 0)=s:=⟨_,rfl⟩
 rw [j] at g;rw [j];go_enter func139,ntmps139;go_upto_region 1 with fail
 generalize (w.alloc (Z (QF x tv).toArray 87))=W at *;have i:=g W d;clear g;go_wp2_with fail
 refine i.mono ?_;rintro e w1 ⟨rfl,f⟩;replace pA:=AtL.below f pA
 replace d:=QA d f
 have o:(QF x tv)[0]? = some (O J (7)):=by rw [<-E];rfl
 have z:=pA.2.1 0 _ o;have C:=pA.2.1 1 _ rfl;have r:=AtL.new0 w1 258 [O J (y:Int),O J u];have c:=QJ (bZ _ w1) (Z #[O J (y:Int),O J u] 258);replace d:=QA d c
 replace z:=QC c z
 replace C:=QC c C
 have L:=r.2.1 0 _ rfl;have M:=r.2.1 1 _ rfl;clear f pA i r c;go_upto_region 2 with fail
 generalize (w1.alloc (Z #[O J (y:Int),O J u] 258))=K at *;cases H
 ·go_wp2;go_ret2
  exact ⟨sM,(clB d)⟩
 ·go_wp2;go_ret2
  exact ⟨sM,(clB d)⟩
theorem zLv (x:Wc.In) (tv:vW) (b mb:Nat) (lv:vW) (F:List (Nat × Int)) (m:Nat) (w:wW) (u:FS w b mb lv F) (M:m<=F.length) (z:F.length<=1000000) (L:x.op=8) :
  cW prog 139 #[pX (some ⟨b,1,none⟩),inV x tv,O J (m:Int)] w λe w'=>(e=rX (uX #[O J (m:Int),Y (decide (m ≠ 0) && !Wc.pairs (VR F m).2)]))/\bL w w':=by
 have pA:=AtL.new0 w 87 (QF x tv);have d:=QJ (bZ _ w) (Z (QF x tv).toArray 87);have g:=λw1 (K:bL w w1)=>JX b mb lv F m w1 (u.below K) M z
 obtain ⟨N,p⟩:∃ t,VR F m=t:=⟨_,rfl⟩
 rw [p] at g;obtain ⟨D,r⟩:=N;simp only at g;obtain ⟨I,o⟩:∃ s,decide (m ≠ 0)=s:=⟨_,rfl⟩
 rw [o] at g;have PA:=λw=>zA4 r w
 obtain ⟨H,j⟩:∃ q,Wc.pairs r=q:=⟨_,rfl⟩
 rw [j] at PA;have l:(decide (m ≠ 0) && !Wc.pairs (VR F m).2)=(I && !H):=by rw [p,o,<-j]
 rw [l];go_enter func139,ntmps139;go_upto_region 1 with fail
 generalize (w.alloc (Z (QF x tv).toArray 87))=W at *;have i:=g W d;clear g;go_wp2_with fail
 refine i.mono ?_;rintro e w1 ⟨rfl,f⟩;replace pA:=AtL.below f pA
 replace d:=QA d f
 have y:(QF x tv)[0]? = some (O J (8)):=by rw [<-L];rfl
 have E:=pA.2.1 0 _ y;have G:=pA.2.1 1 _ rfl;have C:=AtL.new0 w1 258 [O J (D:Int),O J r];have c:=QJ (bZ _ w1) (Z #[O J (D:Int),O J r] 258);replace d:=QA d c
 replace E:=QC c E
 replace G:=QC c G
 have T:=C.2.1 0 _ rfl;have X:=C.2.1 1 _ rfl;clear f pA i C c;go_upto_region 2 with fail
 generalize (w1.alloc (Z #[O J (D:Int),O J r] 258))=R at *;cases I
 ·clear PA;go_wp2;go_ret2
  exact ⟨sM,(clB d)⟩
 ·go_wp2_with fail
  refine (PA _).mono ?_;rintro e w3 ⟨rfl,rfl⟩;cases H
  ·go_wp2;go_ret2
   exact ⟨sM,(clB d)⟩
  ·go_wp2;go_ret2
   exact ⟨sM,(clB d)⟩
theorem zKK (x:Wc.In) (tv:vW) (b mb:Nat) (lv:vW) (F:List (Nat × Int)) (m:Nat) (w:wW) (u:FS w b mb lv F) (M:m<=F.length) (z:F.length<=1000000) (L:x.op=9) :
  cW prog 139 #[pX (some ⟨b,1,none⟩),inV x tv,O J (m:Int)] w λe w'=>(e=rX (uX #[O J (m:Int),Y (decide (m ≠ 0) && Wc.pairs (VR F m).2)]))/\bL w w':=by
 have pA:=AtL.new0 w 87 (QF x tv);have d:=QJ (bZ _ w) (Z (QF x tv).toArray 87);have g:=λw1 (K:bL w w1)=>JX b mb lv F m w1 (u.below K) M z
 obtain ⟨N,p⟩:∃ t,VR F m=t:=⟨_,rfl⟩
 rw [p] at g;obtain ⟨D,r⟩:=N;simp only at g;obtain ⟨I,o⟩:∃ s,decide (m ≠ 0)=s:=⟨_,rfl⟩
 rw [o] at g;have PA:=λw=>zA4 r w
 obtain ⟨H,j⟩:∃ q,Wc.pairs r=q:=⟨_,rfl⟩
 rw [j] at PA;have l:(decide (m ≠ 0) && Wc.pairs (VR F m).2)=(I && H):=by rw [p,o,<-j]
 rw [l];go_enter func139,ntmps139;go_upto_region 1 with fail
 generalize (w.alloc (Z (QF x tv).toArray 87))=W at *;have i:=g W d;clear g;go_wp2_with fail
 refine i.mono ?_;rintro e w1 ⟨rfl,f⟩;replace pA:=AtL.below f pA
 replace d:=QA d f
 have y:(QF x tv)[0]? = some (O J (9)):=by rw [<-L];rfl
 have E:=pA.2.1 0 _ y;have G:=pA.2.1 1 _ rfl;have C:=AtL.new0 w1 258 [O J (D:Int),O J r];have c:=QJ (bZ _ w1) (Z #[O J (D:Int),O J r] 258);replace d:=QA d c
 replace E:=QC c E
 replace G:=QC c G
 have T:=C.2.1 0 _ rfl;have X:=C.2.1 1 _ rfl;clear f pA i C c;go_upto_region 2 with fail
 generalize (w1.alloc (Z #[O J (D:Int),O J r] 258))=R at *;cases I
 ·clear PA;go_wp2;go_ret2
  exact ⟨sM,(clB d)⟩
 ·go_wp2_with fail
  refine (PA _).mono ?_;rintro e w3 ⟨rfl,rfl⟩;cases H
  ·go_wp2;go_ret2
   exact ⟨sM,(clB d)⟩
  ·go_wp2;go_ret2
   exact ⟨sM,(clB d)⟩
theorem zJK (x:Wc.In) (tv:vW) (b mb:Nat) (lv:vW) (F:List (Nat × Int)) (m:Nat) (w:wW) (o:FS w b mb lv F) (G:m<=F.length) (q:F.length<=1000000) (E:x.op=10) :
  cW prog 139 #[pX (some ⟨b,1,none⟩),inV x tv,O J (m:Int)] w λe w'=>(e=rX (uX #[O J (((VR F m).1:Int)),Y (decide (m ≠ 0))]))/\bL w w':=by
 have pA:=AtL.new0 w 87 (QF x tv);have d:=QJ (bZ _ w) (Z (QF x tv).toArray 87);have g:=λw1 (D:bL w w1)=>JX b mb lv F m w1 (o.below D) G q
 obtain ⟨I,l⟩:∃ t,VR F m=t:=⟨_,rfl⟩
 rw [l] at g;obtain ⟨y,u⟩:=I;simp only at g;obtain ⟨H,j⟩:∃ s,decide (m ≠ 0)=s:=⟨_,rfl⟩
 rw [j] at g;rw [j,l];go_enter func139,ntmps139;go_upto_region 1 with fail
 generalize (w.alloc (Z (QF x tv).toArray 87))=W at *;have i:=g W d;clear g;go_wp2_with fail
 refine i.mono ?_;rintro e w1 ⟨rfl,f⟩;replace pA:=AtL.below f pA
 replace d:=QA d f
 have p:(QF x tv)[0]? = some (O J (10)):=by rw [<-E];rfl
 have z:=pA.2.1 0 _ p;have C:=pA.2.1 1 _ rfl;have r:=AtL.new0 w1 258 [O J (y:Int),O J u];have c:=QJ (bZ _ w1) (Z #[O J (y:Int),O J u] 258);replace d:=QA d c
 replace z:=QC c z
 replace C:=QC c C
 have L:=r.2.1 0 _ rfl;have M:=r.2.1 1 _ rfl;clear f pA i r c;go_upto_region 2 with fail
 generalize (w1.alloc (Z #[O J (y:Int),O J u] 258))=K at *;cases H
 ·go_wp2;go_ret2
  exact ⟨sM,(clB d)⟩
 ·go_wp2;go_ret2
  exact ⟨sM,(clB d)⟩
theorem zIK (x:Wc.In) (tv:vW) (b mb:Nat) (lv:vW) (F:List (Nat × Int)) (m:Nat) (w:wW) (o:FS w b mb lv F) (I:m<=F.length) (q:F.length<=1000000) (H:x.op=16) :
  cW prog 139 #[pX (some ⟨b,1,none⟩),inV x tv,O J (m:Int)] w λe w'=>(e=rX (uX #[O J (m:Int),Y (decide (m=0))]))/\bL w w':=by
 have pA:=AtL.new0 w 87 (QF x tv);have d:=QJ (bZ _ w) (Z (QF x tv).toArray 87);have g:=λw1 (G:bL w w1)=>JX b mb lv F m w1 (o.below G) I q
 obtain ⟨K,r⟩:∃ t,VR F m=t:=⟨_,rfl⟩
 rw [r] at g;obtain ⟨z,y⟩:=K;simp only at g;obtain ⟨E,j⟩:∃ s,decide (m ≠ 0)=s:=⟨_,rfl⟩
 rw [j] at g;have l:decide (m=0) = !E:=by rw [<-j];simp
 rw [l];go_enter func139,ntmps139;go_upto_region 1 with fail
 generalize (w.alloc (Z (QF x tv).toArray 87))=W at *;have i:=g W d;clear g;go_wp2_with fail
 refine i.mono ?_;rintro e w1 ⟨rfl,f⟩;replace pA:=AtL.below f pA
 replace d:=QA d f
 have p:(QF x tv)[0]? = some (O J (16)):=by rw [<-H];rfl
 have C:=pA.2.1 0 _ p;have D:=pA.2.1 1 _ rfl;have u:=AtL.new0 w1 258 [O J (z:Int),O J y];have c:=QJ (bZ _ w1) (Z #[O J (z:Int),O J y] 258);replace d:=QA d c
 replace C:=QC c C
 replace D:=QC c D
 have M:=u.2.1 0 _ rfl;have N:=u.2.1 1 _ rfl;clear f pA i u c;go_upto_region 2 with fail
 generalize (w1.alloc (Z #[O J (z:Int),O J y] 258))=L at *;cases E
 ·go_wp2;go_ret2
  exact ⟨sM,(clB d)⟩
 ·go_wp2;go_ret2
  exact ⟨sM,(clB d)⟩
theorem zKH (x:Wc.In) (tv:vW) (b mb:Nat) (lv:vW) (F:List (Nat × Int)) (m:Nat) (w:wW) (j:FS w b mb lv F) (E:m<=F.length) (o:F.length<=1000000) (L:x.op ≠ 6/\x.op ≠ 7/\x.op ≠ 8/\x.op ≠ 9/\x.op ≠ 10/\x.op ≠ 16) :
  cW prog 139 #[pX (some ⟨b,1,none⟩),inV x tv,O J (m:Int)] w λe w'=>(e=rX (uX #[O J (m:Int),Y true]))/\bL w w':=by
 have pA:=AtL.new0 w 87 (QF x tv);have f:=QJ (bZ _ w) (Z (QF x tv).toArray 87);have g:=λw1 (D:bL w w1)=>JX b mb lv F m w1 (j.below D) E o
 obtain ⟨I,q⟩:∃ t,VR F m=t:=⟨_,rfl⟩
 rw [q] at g;obtain ⟨y,u⟩:=I;simp only at g;obtain ⟨X,p⟩:∃ s,decide (m ≠ 0)=s:=⟨_,rfl⟩
 rw [p] at g;have M:¬ x.op=6:=oM;have N:¬ x.op=7:=oM;have R:¬ x.op=8:=oM;have T:¬ x.op=9:=oM;have G:¬ x.op=10:=oM;have H:¬ x.op=16:=oM;go_enter func139,ntmps139;go_upto_region 1 with fail
 generalize (w.alloc (Z (QF x tv).toArray 87))=W at *;have i:=g W f;clear g;go_wp2_with fail
 refine i.mono ?_;rintro e w1 ⟨rfl,d⟩;replace pA:=AtL.below d pA
 replace f:=QA f d
 have l:(QF x tv)[0]? = some (O J x.op):=rfl;have z:=pA.2.1 0 _ l;have C:=pA.2.1 1 _ rfl;have r:=AtL.new0 w1 258 [O J (y:Int),O J u];have c:=QJ (bZ _ w1) (Z #[O J (y:Int),O J u] 258);replace f:=QA f c
 replace z:=QC c z
 replace C:=QC c C
 have t0:=r.2.1 0 _ rfl;have t1:=r.2.1 1 _ rfl;clear d pA i r c;go_upto_region 2 with fail
 generalize (w1.alloc (Z #[O J (y:Int),O J u] 258))=K at *;go_wp2;go_ret2
 exact ⟨sM,(clB f)⟩
def zRV (r:Option (Nat × List (Nat × Int))) (b mb:Nat) (lv:vW) (w:wW) (e:Ending) (w':wW):Prop:=match r with
 | some (k,F2)=>e=rX (uX #[O J (k:Int),Y true])/\BPost b mb lv w w' F2
 | none=>∃ z:Int,e=rX (uX #[O J z,Y false])/\Fr (b::mb::lv.ownBlock.toList) w w'
theorem zC6 {m:Nat} (h:m ≠ 0):VR F m=F.getD (m - 1) (0,0):=if_neg h
def VZ (x:Wc.In):Prop:=∀ (tv:vW) (b mb:Nat) (lv:vW) (F:List (Nat × Int)) (m:Nat) (w:wW),FS w b mb lv F->m<=F.length->F.length<=1000000->cW prog 139 #[pX (some ⟨b,1,none⟩),inV x tv,O J (m:Int)] w λe w'=>zRV (Wc.behF F x.op x.a m) b mb lv w e w'
theorem zOt {x:Wc.In} (h:x.op=16):VZ x:=by
 intro tv b mb lv F m w c i f;refine (zIK x tv b mb lv F m w c i f h).mono ?_;rintro e w' ⟨rfl,g⟩;by_cases d:m=0
 ·rw [show Wc.behF F x.op x.a m=some (m,F) from by simp [Wc.behF,h,d]];exact ⟨by simp [d],BPost.of_below c g⟩
 ·rw [show Wc.behF F x.op x.a m=none from by simp [Wc.behF,h,d]];exact ⟨_,by simp [d];rfl,Fr.of_below _ g⟩
theorem zN1 {x:Wc.In} (h:x.op ≠ 6/\x.op ≠ 7/\x.op ≠ 8/\x.op ≠ 9/\x.op ≠ 10/\x.op ≠ 16):VZ x:=by
 intro tv b mb lv F m w c g d;refine (zKH x tv b mb lv F m w c g d h).mono ?_;rintro e w' ⟨rfl,f⟩;obtain ⟨i,j,l,o,p,q⟩:=h;rw [show Wc.behF F x.op x.a m=some (m,F) from by simp [Wc.behF,i,j,l,o,p,q]];exact ⟨rfl,BPost.of_below c f⟩
theorem zGF (x:Wc.In) (tv:vW) (b mb:Nat) (lv:vW) (F:List (Nat × Int)) (m:Nat) (w:wW) (c:FS w b mb lv F) (i:m<=F.length) (f:F.length<=1000000) :
  cW prog 139 #[pX (some ⟨b,1,none⟩),inV x tv,O J (m:Int)] w λe w'=>zRV (Wc.behF F x.op x.a m) b mb lv w e w':=by
 rcases Wc.ops17 x.op with h | h | h | h | h | h | h
 ·refine (zKe x tv b mb lv F m w c i f h).mono ?_;rintro e w' ⟨k,q,l,o,p⟩;rw [h,l];exact ⟨o,p⟩
 ·refine (zK5 x tv b mb lv F m w c i f h).mono ?_;rintro e w' ⟨rfl,g⟩;by_cases d:m=0
  ·rw [show Wc.behF F x.op x.a m=none from by simp [Wc.behF,h,d]];exact ⟨_,by simp [d];rfl,Fr.of_below _ g⟩
  ·rw [show Wc.behF F x.op x.a m=some (m,F) from by simp [Wc.behF,h,d]];exact ⟨by simp [d],BPost.of_below c g⟩
 ·refine (zLv x tv b mb lv F m w c i f h).mono ?_;rintro e w' ⟨rfl,g⟩;by_cases d:m=0
  ·rw [show Wc.behF F x.op x.a m=none from by simp [Wc.behF,h,d]];exact ⟨_,by simp [d];rfl,Fr.of_below _ g⟩
  ·rw [zC6 d];cases j:Wc.pairs (F.getD (m - 1) (0,0)).2 with
   | true =>
    rw [show Wc.behF F x.op x.a m=none from by simp only [Wc.behF,h,j];simp];exact ⟨_,by simp;rfl,Fr.of_below _ g⟩
   | false =>
    rw [show Wc.behF F x.op x.a m=some (m,F) from by simp only [Wc.behF,h,j];simp [d]];exact ⟨by simp [d],BPost.of_below c g⟩
 ·refine (zKK x tv b mb lv F m w c i f h).mono ?_;rintro e w' ⟨rfl,g⟩;by_cases d:m=0
  ·rw [show Wc.behF F x.op x.a m=none from by simp [Wc.behF,h,d]];exact ⟨_,by simp [d];rfl,Fr.of_below _ g⟩
  ·rw [zC6 d];cases j:Wc.pairs (F.getD (m - 1) (0,0)).2 with
   | false =>
    rw [show Wc.behF F x.op x.a m=none from by simp only [Wc.behF,h,j];simp];exact ⟨_,by simp;rfl,Fr.of_below _ g⟩
   | true =>
    rw [show Wc.behF F x.op x.a m=some (m,F) from by simp only [Wc.behF,h,j];simp [d]];exact ⟨by simp [d],BPost.of_below c g⟩
 ·refine (zJK x tv b mb lv F m w c i f h).mono ?_;rintro e w' ⟨rfl,g⟩;by_cases d:m=0
  ·rw [show Wc.behF F x.op x.a m=none from by simp [Wc.behF,h,d]];exact ⟨_,by simp [d];rfl,Fr.of_below _ g⟩
  ·rw [zC6 d,show Wc.behF F x.op x.a m=some ((F.getD (m - 1) (0,0)).1,F) from by simp [Wc.behF,h,d]];exact ⟨by simp [d],BPost.of_below c g⟩
 ·exact zOt h tv b mb lv F m w c i f
 ·exact zN1 h tv b mb lv F m w c i f
theorem zN8 (x:Wc.In):VZ x:=λtv b mb lv F m w c e d=>zGF x tv b mb lv F m w c e d
def Vf (F:List (Nat × Int)) (x:Wc.In) (v:Int) (m:Nat):Option ((Int × Nat) × List (Nat × Int)):=match Wc.behF F x.op x.a m with
 | none=>none
 | some (m2,F2)=>if v<(Wc.swO x.op x.b).1 \/ (x.op=16/\(Wc.swO x.op x.b).1<v) then none else some ((v - (Wc.swO x.op x.b).1+(Wc.swO x.op x.b).2,m2),F2)
def Vy (o:Int) (r:Option (Nat × List (Nat × Int))) (v c d:Int):Option ((Int × Nat) × List (Nat × Int)):=match r with
 | none=>none
 | some (m2,F2)=>if v<c \/ (o=16/\c<v) then none else some ((v - c+d,m2),F2)
def Vx (r:Option ((Int × Nat) × List (Nat × Int))) (b mb:Nat) (lv:vW) (w:wW) (e:Ending) (w':wW):Prop:=match r with
 | some ((v,k),F2)=>e=rX (uX #[gX #[O J v,O J (k:Int)],Y true])/\BPost b mb lv w w' F2
 | none=>e=rX (uX #[gX #[O J 0,O J 0],Y false])/\Fr (b::mb::lv.ownBlock.toList) w w'
theorem AtL.fr {l:List vW} (h:AtL w k l) (c:Fr S w w') (d:k ∉ S):AtL w' k l :=
 ⟨Nat.lt_of_lt_of_le h.1 c.size,λi v e=>c.cell (h.2.1 i v e) d,λi hi=>by rw [c.frozen h.1 d];exact h.2.2 i hi⟩
theorem BPost.set (h:BPost b mb lv w w1 F) {k:Nat} (C:w.heap.size<=k) (G:b<w.heap.size) (d:∃ c f,w1.heap[k]? = some (Z c 191 f)) (i:Nat) (v:vW):BPost b mb lv w (w1.setCell ⟨k,i,none⟩ v) F/\∃ c f,(w1.setCell ⟨k,i,none⟩ v).heap[k]? = some (Z c 191 f):=by
 obtain ⟨c,f,d⟩:=d;obtain ⟨⟨lv',l⟩,y,z⟩:=h;have fr:Fr [k] w1 (w1.setCell ⟨k,i,none⟩ v):=Fr.of_grown (QU _ _ _ _) (λj e=>by cases e;simp);have D:=l.lt;refine ⟨⟨⟨lv',l.fr fr (by simp;omega) (by simp;omega) (λg e m=>?_)⟩,y.new fr (λj hj=>by simp at hj;subst hj;exact Or.inr C),λu E=>fr.cell (z u E) (by simp;omega)⟩,?_⟩
 ·simp at m;subst m;rcases l.own.2 with ⟨q,_⟩ | ⟨s,cap,p,q,_,o,_⟩
  ·rw [q] at e;cases e
  ·rw [q] at e;have r:s=g:=by simpa [Value.ownBlock] using e
   subst r;rw [d] at o;cases o
 ·refine ⟨c.setIfInBounds i v,f,?_⟩;simp [jZ,fZ,d]
theorem zAq (w:wW) (o:Obj) (k:Nat) (h:k=w.heap.size):(w.alloc o).heap[k]? = some o:=by
 subst h;exact Array.getElem?_push_size
theorem zGh (x:Wc.In) (tv:vW) (b mb:Nat) (lv:vW) (F:List (Nat × Int)) (m:Nat) (v:Int) (w:wW) (g:FS w b mb lv F) (hm:m<=F.length) (aa:F.length<=1000000) (hv:0<=v/\v<=100000000) (ab:-1000<=(Wc.swO x.op x.b).1/\(Wc.swO x.op x.b).1<=1000/\0<=(Wc.swO x.op x.b).2/\(Wc.swO x.op x.b).2<=1) (R:VZ x) :
  cW prog 105 #[pX (some ⟨b,1,none⟩),inV x tv,gX #[O J v,O J (m:Int)]] w λe w'=>Vx (Vf F x v m) b mb lv w e w':=by
 have H:AtL (((w.alloc (Z (QF x tv).toArray 87)).alloc (Z #[O J v,O J (m:Int)] 191)).alloc (Z #[O J 0,O J 0] 191)) w.heap.size (QF x tv):=((AtL.new0 w _ _).alloc _).alloc _;have s:AtL (((w.alloc (Z (QF x tv).toArray 87)).alloc (Z #[O J v,O J (m:Int)] 191)).alloc (Z #[O J 0,O J 0] 191)) (w.heap.size+1) [O J v,O J (m:Int)]:=(AtL.new1 w _ _ _).alloc _;have i:AtL (((w.alloc (Z (QF x tv).toArray 87)).alloc (Z #[O J v,O J (m:Int)] 191)).alloc (Z #[O J 0,O J 0] 191)) (w.heap.size+1+1) [O J 0,O J 0]:=AtL.new _ _ (by simp only [jY]) _;have tR:((((w.alloc (Z (QF x tv).toArray 87)).alloc (Z #[O J v,O J (m:Int)] 191)).alloc (Z #[O J 0,O J 0] 191))).heap[w.heap.size+1+1]? = some (Z #[O J 0,O J 0] 191 (0,0)):=zAq _ _ _ (by simp only [jY]);have D:bL w ((((w.alloc (Z (QF x tv).toArray 87)).alloc (Z #[O J v,O J (m:Int)] 191)).alloc (Z #[O J 0,O J 0] 191))):=QJ (QJ (QJ (bZ _ w) _) _) _;have SW:=λw=>zGO x tv w
 have BH:=λw1 (hb:bL w w1)=>R tv b mb lv F m w1 (g.below hb) hm aa
 clear R;have HG:hH (∀ k,k ∈ b::mb::lv.ownBlock.toList->k<w.heap.size):=by
  intro k hk;have h1:=Q8 g.hd;have h2:=g.lt;simp only [List.mem_cons,Option.mem_toList] at hk;rcases hk with rfl | rfl | hk
  ·exact h1
  ·omega
  ·exact (QM g.own hk).2
 have HB:=hid (Q8 g.hd);obtain ⟨c,l⟩:∃ o,(Wc.swO x.op x.b).1=o:=⟨_,rfl⟩
 obtain ⟨d,p⟩:∃ o,(Wc.swO x.op x.b).2=o:=⟨_,rfl⟩
 obtain ⟨r,hr⟩:=xV (Wc.behF F x.op x.a m)
 have X:Vf F x v m=Vy x.op r v c d:=by rw [<-l,<-p,<-hr];rfl
 rw [X];rw [l,p] at ab;rw [hr] at BH;have M:∀ w:wW,CR 138 #[inV x tv] w (uX #[O J c,O J d]):=λw=>by rw [<-l,<-p];exact SW w
 have wa:J.wrap (v - c)=v - c:=by rw [nZ];omega
 have wb:J.wrap (v - c+d)=v - c+d:=by rw [nZ];omega
 clear X l p hr SW g hm aa hv ab;go_enter func105,ntmps105;go_upto_region 1 with fail
 generalize (((w.alloc (Z (QF x tv).toArray 87)).alloc (Z #[O J v,O J (m:Int)] 191)).alloc (Z #[O J 0,O J 0] 191))=W at *;have rI:=H.range;go_wp2_with (first | (refine QB (by rfl) 87 (mX 4) rfl w.heap.size 0 rfl (QF x tv) _ rI underlying87 rfl kR ?_))
 refine (M _).mono ?_;rintro e w1 ⟨rfl,f⟩;replace H:=AtL.below f H
 replace s:=AtL.below f s
 replace tR:=(f.block _ i.1).trans tR
 replace i:=AtL.below f i
 replace D:=QA D f
 have K:=BH w1 D;clear rI f M BH;have rI:=H.range;have h0:=s.2.1 0 _ rfl;have h1:=s.2.1 1 _ rfl;go_wp2_with (first | (refine QB (by rfl) 87 (mX 4) rfl w.heap.size 0 rfl (QF x tv) _ rI underlying87 rfl kR ?_))
 refine K.mono ?_;intro e w2 E;clear rI K;have nI:w.heap.size ∉ b::mb::lv.ownBlock.toList:=λe=>by have:=HG.out _ e;omega
 have nH:w.heap.size+1 ∉ b::mb::lv.ownBlock.toList:=λe=>by have:=HG.out _ e;omega
 have nR:w.heap.size+1+1 ∉ b::mb::lv.ownBlock.toList:=λe=>by have:=HG.out _ e;omega
 have I:Fr (b::mb::lv.ownBlock.toList) w1 w2:=by
  cases r with
  | none =>
   obtain ⟨_,_,h⟩:=E;exact h
  | some q =>
   obtain ⟨_,_,h,_⟩:=E;exact h
 replace H:=H.fr I nI
 replace s:=s.fr I nH
 have t2:w2.heap[w.heap.size+1+1]? = some (Z #[O J 0,O J 0] 191 (0,0)):=by rw [I.block _ i.1 nR];exact tR
 replace i:=i.fr I nR
 have i0:=H.2.1 0 _ rfl;clear h0 h1 tR;have h0:=s.2.1 0 _ rfl;have h1:=s.2.1 1 _ rfl;have r0:=i.2.1 0 _ rfl;have r1:=i.2.1 1 _ rfl;have z0:=i.2.2 0 dM;have z1:=i.2.2 1 dM;cases r with
 | none =>
  obtain ⟨z,rfl,hf⟩:=E;have FB:=(Fr.of_below (b::mb::lv.ownBlock.toList) D).trans hf;have F3:Fr (b::mb::lv.ownBlock.toList) w ((w2.setCell ⟨w.heap.size+1+1,0,none⟩ (O J 0)).setCell ⟨w.heap.size+1+1,1,none⟩ (O J 0)):=(FB.new (Fr.of_grown (QU _ _ _ _) (λj e=>by cases e;exact List.mem_singleton.2 rfl)) (λj G=>by simp at G;omega)).new (Fr.of_grown (QU _ _ _ _) (λj e=>by cases e;exact List.mem_singleton.2 rfl)) (λj G=>by simp at G;omega);clear hf I D;go_upto_region 4 with fail
  go_wp2;have u:((w2.setCell ⟨w.heap.size+1+1,0,none⟩ (O J 0)).setCell ⟨w.heap.size+1+1,1,none⟩ (O J 0)).cell? ⟨w.heap.size+1+1,0,none⟩=some (O J 0):=by rw [QZ _ _ _ dM];exact Q6 r0 _
  have y:((w2.setCell ⟨w.heap.size+1+1,0,none⟩ (O J 0)).setCell ⟨w.heap.size+1+1,1,none⟩ (O J 0)).cell? ⟨w.heap.size+1+1,1,none⟩=some (O J 0):=Q6 (by rw [QZ _ _ _ dM];exact r1) _;refine bodyPost_ret (v:=uX #[gX #[O J 0,O J 0],Y false]) (by simp [results,results105,go_sem,u,y]) rfl ?_;exact ⟨rfl,F3⟩
 | some q =>
  obtain ⟨k,C⟩:=q;obtain ⟨rfl,E⟩:=E;have PB:=BPost.front D E;have P1:=PB.set (k:=w.heap.size+1+1) oM HB.out ⟨_,_,t2⟩ 0 (O J (v - c+d));have P2:=P1.1.set oM HB.out P1.2 1 (O J (k:Int));have FB:=PB.2.1;have F3:Fr (b::mb::lv.ownBlock.toList) w ((w2.setCell ⟨w.heap.size+1+1,0,none⟩ (O J 0)).setCell ⟨w.heap.size+1+1,1,none⟩ (O J 0)):=(FB.new (Fr.of_grown (QU _ _ _ _) (λj e=>by cases e;exact List.mem_singleton.2 rfl)) (λj G=>by simp at G;omega)).new (Fr.of_grown (QU _ _ _ _) (λj e=>by cases e;exact List.mem_singleton.2 rfl)) (λj G=>by simp at G;omega);have L:=hid P2.1;clear E I D PB P1 P2 FB t2;have NO:∀ (T:v<c \/ (x.op=16/\c<v)),Vy x.op (some (k,C)) v c d=none:=λT=>if_pos T
  have N:∀ (T:¬ (v<c \/ (x.op=16/\c<v))),Vy x.op (some (k,C)) v c d=some ((v - c+d,k),C):=λT=>if_neg T
  have u:((w2.setCell ⟨w.heap.size+1+1,0,none⟩ (O J 0)).setCell ⟨w.heap.size+1+1,1,none⟩ (O J 0)).cell? ⟨w.heap.size+1+1,0,none⟩=some (O J 0):=by rw [QZ _ _ _ dM];exact Q6 r0 _
  have y:((w2.setCell ⟨w.heap.size+1+1,0,none⟩ (O J 0)).setCell ⟨w.heap.size+1+1,1,none⟩ (O J 0)).cell? ⟨w.heap.size+1+1,1,none⟩=some (O J 0):=Q6 (by rw [QZ _ _ _ dM];exact r1) _;have Q0:hH _:=u;have Q1:hH _:=y;clear u y;by_cases c1:v<c
  ·go_upto_region 4 with fail
   go_wp2;refine bodyPost_ret (v:=uX #[gX #[O J 0,O J 0],Y false]) (by have u:=Q0.out;have y:=Q1.out;simp [results,results105,go_sem,u,y]) rfl ?_;show Vx (Vy x.op (some (k,C)) v c d) b mb lv w _ _
   rw [NO (Or.inl c1)];exact ⟨rfl,F3⟩
  ·by_cases c2:x.op=16
   ·by_cases c3:c<v
    ·go_upto_region 4 with fail
     go_wp2;refine bodyPost_ret (v:=uX #[gX #[O J 0,O J 0],Y false]) (by have u:=Q0.out;have y:=Q1.out;simp [results,results105,go_sem,u,y]) rfl ?_;show Vx (Vy x.op (some (k,C)) v c d) b mb lv w _ _
     rw [NO (Or.inr ⟨c2,c3⟩)];exact ⟨rfl,F3⟩
    ·go_wp2;have d0:((w2.setCell ⟨w.heap.size+1+1,0,none⟩ (O J (v - c+d))).setCell ⟨w.heap.size+1+1,1,none⟩ (O J (k:Int))).cell? ⟨w.heap.size+1+1,0,none⟩=some (O J (v - c+d)):=by rw [QZ _ _ _ dM];exact Q6 r0 _
     have d1:((w2.setCell ⟨w.heap.size+1+1,0,none⟩ (O J (v - c+d))).setCell ⟨w.heap.size+1+1,1,none⟩ (O J (k:Int))).cell? ⟨w.heap.size+1+1,1,none⟩=some (O J (k:Int)):=Q6 (by rw [QZ _ _ _ dM];exact r1) _;refine bodyPost_ret (v:=uX #[gX #[O J (v - c+d),O J (k:Int)],Y true]) (by simp [results,results105,go_sem,d0,d1]) rfl ?_;show Vx (Vy x.op (some (k,C)) v c d) b mb lv w _ _
     rw [N oM];exact ⟨rfl,L.out⟩
   ·go_wp2;have d0:((w2.setCell ⟨w.heap.size+1+1,0,none⟩ (O J (v - c+d))).setCell ⟨w.heap.size+1+1,1,none⟩ (O J (k:Int))).cell? ⟨w.heap.size+1+1,0,none⟩=some (O J (v - c+d)):=by rw [QZ _ _ _ dM];exact Q6 r0 _
    have d1:((w2.setCell ⟨w.heap.size+1+1,0,none⟩ (O J (v - c+d))).setCell ⟨w.heap.size+1+1,1,none⟩ (O J (k:Int))).cell? ⟨w.heap.size+1+1,1,none⟩=some (O J (k:Int)):=Q6 (by rw [QZ _ _ _ dM];exact r1) _;refine bodyPost_ret (v:=uX #[gX #[O J (v - c+d),O J (k:Int)],Y true]) (by simp [results,results105,go_sem,d0,d1]) rfl ?_;show Vx (Vy x.op (some (k,C)) v c d) b mb lv w _ _
    rw [N oM];exact ⟨rfl,L.out⟩
theorem zPC (l:List Int) (o p:vW) (w:wW) (y:RdZ w o l) (z:RdZ w p l) (C:l.length<=1000000) :
  CR 40 #[o,p] w (Y true):=by
 obtain ⟨G,I,rfl,j⟩:=y;obtain ⟨H,K,rfl,m⟩:=z;have q:=hid j;have r:=hid m;obtain ⟨n,D⟩:=xV l.length
 rw [D] at C ⊢;clear j m;go_enter func40,ntmps40;go_wp2_with fail
 go_loopg [5] n (λgk x wr=>∃ i:Nat,x=O J i/\gk=n - i/\i<=n/\bL w wr)
 case atStart=>exact ⟨0,rfl,rfl,gY _,bZ _ _⟩
 case round =>
  obtain ⟨i,rfl,L,hi,c⟩:=hrel;by_cases e:i<n
  ·have d:(i:Int)<(n:Int):=oM;have E:J.wrap ((i:Int)+1)=(i:Int)+1:=by rw [nZ];omega
   obtain ⟨b1,M,rfl,f⟩:=q.out i oM;obtain ⟨b2,N,rfl,g⟩:=r.out i oM;have s:=QC c f;have u:=QC c g;generalize l[i]=x at s u;clear f g;go_upto_region 6 with fail
   go_quiet (fail)
   go_wp2_with fail
   go_roundg (n - (i+1))
   case rel=>exact ⟨i+1,sM,rfl,e,(clB c)⟩
   case measure=>omega
  ·have d:¬ (i:Int)<(n:Int):=oM;go_wp2;go_ret;exact ⟨rfl,c⟩
theorem QG (c:bL w w') {b o:Nat} {l:List vW} (h:w.rangeAt b o l):w'.rangeAt b o l:=λj v d=>QC c (h j v d)
def RdC (w:wW) (v:vW) (L:List (Wc.In × List Int)):Prop:=∃ c cap,v=U c L.length cap/\∀ i (h:i<L.length),∃ bb off p m k,c=some ⟨bb,off,none⟩/\w.rangeAt bb (off+i * 23) (QF (L[i]).1 (U p m k))/\RdZ w (U p m k) (L[i]).2/\(p=none->k=0)
theorem RdC.below {L:List (Wc.In × List Int)} (h:RdC w v L) (c:bL w w'):RdC w' v L:=by
 obtain ⟨d,cap,e,h⟩:=h;refine ⟨d,cap,e,λi hi=>?_⟩;obtain ⟨bb,off,p,m,k,f,g,j,l⟩:=h i hi;exact ⟨bb,off,p,m,k,f,QG c g,j.below c,l⟩
theorem zCp {s:Tmp} {T:TypeId} (h:fn.results=#[.cell t T,.tmp s]) (c:Array vW) (w:wW) (b:Nat) (cs:List vW) (d:TypeDesc) (i:c.getD t undef=pX (some ⟨b,0,none⟩)) (f:w.rangeAt b 0 cs)
  (j:P.underlying T=some d) (hd:d.isRow=true) (hi:(P.info? T).map (·.size)=some cs.length):(results fn c).run P w=.ok (uX #[gX cs.toArray,c.getD s undef]) w:=by
 have g:=run_loadVar_mid (P:=P) w b 0 T cs d f j hd hi;have e:c[t]?.getD undef=pX (some ⟨b,0,none⟩):=by rw [<-i];simp
 simp only [results,h];simp [e,g,asAddr]
theorem Q4 {T:TypeId} (h:fn.results=#[.cell t T]) (c:Array vW) (w:wW) (b:Nat) (cs:List vW) (d:TypeDesc) (i:c.getD t undef=pX (some ⟨b,0,none⟩)) (f:w.rangeAt b 0 cs)
  (j:P.underlying T=some d) (hd:d.isRow=true) (hi:(P.info? T).map (·.size)=some cs.length):(results fn c).run P w=.ok (gX cs.toArray) w:=by
 have g:=run_loadVar_mid (P:=P) w b 0 T cs d f j hd hi;have e:c[t]?.getD undef=pX (some ⟨b,0,none⟩):=by rw [<-i];simp
 simp only [results,h];simp [e,g,asAddr]
def QP (x:Wt.Nd) (c:vW):List vW:=QN x++[c]
theorem zBP (x:Wt.Nd) (c:vW):(QP x c).length=21:=rfl
theorem zMm (x:Wt.Nd) (d:Option Addr) (n c:Nat):∀ v ∈ QP x (U d n c),v.oneCell'=true:=by
 intro v e;rcases List.mem_append.1 e with h | h
 ·exact zJ7 x v h
 ·simp at h;subst h;rfl
theorem Qt (x:Wt.Nd) (d:Option Addr) (n c:Nat):(QP x (U d n c)).toArray.all (·.oneCell')=true:=all_oneCell_toArray (zMm x d n c)
theorem zRd (x:Wt.Nd) (w:wW):(Instr.build 159 #[(0,gX (QN x).toArray)]).run prog w=.ok (gX (QP x (U none 0 0)).toArray) w:=kR
theorem zEV (c:op.guard=none) (y:Operand) (e:op.op=.build 159 #[(0,y)]) (x:Wt.Nd) (f:a.eval y=gX (QN x).toArray)
  (h:wpList prog ops Q rest (a.put op.dst (gX (QP x (U none 0 0)).toArray)) w):wpList prog ops Q (op::rest) a w:=by
 refine wpList_plain c λK d=>?_
 unfold Oper.wp execOp;simp only [e,sZ,qZ,dY,f,Sem.run_bind,Sem.run_pure,iZ,zRd];exact d _ _ h
theorem zBB {o:Nat} {e:vW} (h:w.rangeAt k o (QP x e)):w.rangeAt k o (QN x):=λj v c=>h j v (by
 unfold QP;have d:j<(QN x).length:=by
  rcases cY j (QN x).length with q | q
  ·exact q
  ·rw [kZ q] at c;cases c
 rw [rZ d];exact c)
abbrev zeros21:Array vW:=#[O J 0,O J 0,O J 0,O J 0,V ⟨#[]⟩,Y false,O J 0,O J 0,V ⟨#[]⟩,O J 0,V ⟨#[]⟩,O J 0,O J 0,Y false,Y false,V ⟨#[]⟩,O J 0,O J 0,Y false,Y false,U none 0 0]
def J2:List (Wt.Nd × vW)->List vW
 | []=>[]
 | p::r=>QP p.1 p.2++J2 r
theorem zDm:∀ A:List (Wt.Nd × vW),(J2 A).length=A.length * 21
 | []=>rfl
 | x::r=>by simp [J2,zDm r,zBP];omega
theorem zDb:∀ (A C:List (Wt.Nd × vW)),J2 (A++C)=J2 A++J2 C
 | [],C=>rfl
 | x::r,C=>by simp [J2,zDb r C]
theorem zDH:∀ (A:List (Wt.Nd × vW)),(∀ p ∈ A,∃ d n c,p.2=U d n c)->∀ v ∈ J2 A,v.oneCell'=true
 | [],_,v,h=>by cases h
 | x::r,hs,v,h=>by
  obtain ⟨d,n,c,e⟩:=hs x (bY ..);simp only [J2,List.mem_append] at h;rcases h with h | h
  ·rw [e] at h;exact zMm _ _ _ _ v h
  ·exact zDH r (λp f=>hs p (yZ _ f)) v h
theorem zD9:∀ (A:List (Wt.Nd × vW)) (i:Nat) (h:i<A.length) (j:Nat) (v:vW),(QP (A[i]).1 (A[i]).2)[j]? = some v->(J2 A)[i * 21+j]? = some v
 | [],i,h,_,_,_=>absurd h (tZ _)
 | x::r,0,h,j,v,hv=>by
  have c:j<(QP x.1 x.2).length:=by
   rcases cY j (QP x.1 x.2).length with q | q
   ·exact q
   ·simp only [vZ] at hv;rw [kZ q] at hv;cases hv
  simp only [J2,nY,eY];rw [rZ c];exact hv
 | x::r,i+1,h,j,v,hv=>by
  simp only [J2];rw [List.getElem?_append_right (by rw [zBP];omega),zBP,show (i+1) * 21+j - 21=i * 21+j from by omega];exact zD9 r i (by simpa using h) j v (by simpa using hv)
def OwnP (w:wW) (B:Nat) (v:vW) (A:List (Wt.Nd × vW)):Prop:=w.ownsRow B 159 21 v A.length (J2 A)
theorem OwnP.nil (w:wW) (B:Nat):OwnP w B (U none 0 0) []:=⟨rfl,Or.inl ⟨rfl,rfl⟩⟩
theorem OwnP.below (h:OwnP w B v A) (c:bL w w'):OwnP w' B v A:=Q2 (Fr.of_below [] c) h sM
theorem OwnP.cases (h:OwnP w B v A):(v=U none 0 0/\A=[]) \/ ∃ g cap,v=U (some ⟨g,0,none⟩) A.length cap/\B<=g/\g<w.heap.size/\∀ i (hi:i<A.length),w.rangeAt g (i * 21) (QP (A[i]).1 (A[i]).2):=by
 rcases h.2 with ⟨e,d⟩ | ⟨g,cap,f,e,c,m,o,p,q,r⟩
 ·exact Or.inl ⟨e,oZ d⟩
 ·refine Or.inr ⟨g,cap,e,c,(QM h (by rw [e];rfl)).2,λi hi j v l=>?_⟩;have:=h.cells (by rw [e];rfl) (i * 21+j) v (zD9 A i hi j v l);rw [show (⟨g,0,none⟩:Addr).add (i * 21+j)=⟨g,i * 21+j,none⟩ from by
   simp [Addr.add];try (intro d;omega)] at this
  exact this
theorem OwnP.slice (h:OwnP w B v A):∃ a m c,v=U a m c:=by
 rcases OwnP.cases h with ⟨e,_⟩ | ⟨g,cap,e,_⟩
 ·exact ⟨_,_,_,e⟩
 ·exact ⟨_,_,_,e⟩
theorem zED:(prog.info? 159).map (λi=>(i.zero,i.size,i.bytes))=some (some (gX zeros21),21,200):=kR
theorem zAa {ops:Array Oper} {rest:List Oper} {o:Oper} {a:Act} {Q:Exit->Act->wW->Prop} (m:o.guard=none) (s x:Operand) (L:o.op=.call {callee:=.builtin .append,args:=#[s,x],argTypes:=#[157,157]})
  (w:wW) (B:Nat) (E:B<=w.heap.size) (v:vW) (A:List (Wt.Nd × vW)) (N:a.eval s=v) (f:OwnP w B v A) (g:Nat) (y:Wt.Nd) (i:Option Addr) (n c:Nat) (R:a.eval x=U (some ⟨g,0,none⟩) 1 1) (l:w.rangeAt g 0 (QP y (U i n c))) (D:True->A.length<=1000)
  (h:∀ e w',OwnP w' B e (A++[(y,U i n c)])->w.grownBy w' v.ownBlock->(e.ownBlock=v.ownBlock \/ e.ownBlock=some w.heap.size)->wpList prog ops Q rest (a.put o.dst e) w'):wpList prog ops Q (o::rest) a w:=by
 obtain ⟨T,q,r,z,C⟩:=info_parts zED;have D:=D trivial;refine wpList_plain m λK G=>?_
 have d:∀ j u,(J2 [(y,U i n c)])[j]? = some u->w.cell? ((⟨g,0,none⟩:Addr).add j)=some u:=λj u hj=>by
  simp only [J2,List.append_nil] at hj;have:=l j u hj;rw [eY] at this;rw [show (⟨g,0,none⟩:Addr).add j=⟨g,j,none⟩ from by
   simp [Addr.add];try (intro W;omega)]
  exact this
 obtain ⟨e,w',M,own,I,_,H⟩:=run_append_own_at (P:=prog) w B 157 o.type 159 T _ 21 200 underlying157 q r z C rfl dM v A.length (J2 A) f ⟨g,0,none⟩ 1 1 (J2 [(y,U i n c)]) (zDm _) d (zDH _ (λp hp=>by simp at hp;subst hp;exact ⟨_,_,_,rfl⟩)) (by unfold maxLen;omega) oM E;unfold Oper.wp execOp;simp only [L,resolve,invoke,builtin,Sem.run_bind,Sem.run_pure,iZ,sZ,qZ,dY,N,R,M];refine G _ _ (h e w' ?_ I H);unfold OwnP;rw [dZ,zDb];exact own
theorem zRc (x:Wt.Nd) (d:Option Addr) (n c:Nat) (w:wW):(Instr.buildSlice 157 1 #[(0,gX (QP x (U d n c)).toArray)]).run prog w=.ok (U (some ⟨w.heap.size,0,none⟩) 1 1) (w.alloc (Z (QP x (U d n c)).toArray 159)):=kR
theorem zA8 (d:op.guard=none) (y:Operand) (g:op.op=.buildSlice 157 1 #[(0,y)]) (x:Wt.Nd) (e:Option Addr) (n c:Nat) (i:a.eval y=gX (QP x (U e n c)).toArray)
  (h:wpList prog ops Q rest (a.put op.dst (U (some ⟨w.heap.size,0,none⟩) 1 1)) (w.alloc (Z (QP x (U e n c)).toArray 159))):wpList prog ops Q (op::rest) a w:=by
 refine wpList_plain d λK f=>?_
 unfold Oper.wp execOp;simp only [g,sZ,qZ,dY,i,Sem.run_bind,Sem.run_pure,iZ,zRc];exact f _ _ h
theorem Qj (b:Nat):∀ (vs:List vW) (o:Nat) (w:wW),Fr [b] w (w.setCells b o vs)
 | [],o,w=>Fr.refl _ _
 | v::r,o,w=>(Fr.of_grown (QU w b o v) (λj e=>by cases e;simp)).trans (Qj b r (o+1) _)
theorem zB5 (h:bL w w1) (f:Fr S w1 w2) (c:∀ k ∈ S,w.heap.size<=k):bL w w2:=(Fr.new (Fr.of_below [] h) f (λk hk=>Or.inr (c k hk))).to_below (λk hk=>absurd hk sM)
open Wf
def RdT (n lo hi:Nat) (w:wW) (d:Option Addr) (c:List (Tr n × vW)):Prop:=∀ i (h:i<c.length),∃ bb off,lo<=bb/\bb<hi/\d=some ⟨bb,off,none⟩/\w.rangeAt bb (off+i * 21) (QP (hd n (c[i]).1) (c[i]).2)
def PA:(n:Nat)->Nat->Nat->wW->Tr n->vW->Prop
 | 0,_,_,_,t,_=>Empty.elim t
 | n+1,lo,hi,w,t,sl=>∃ (d:Option Addr) (cap:Nat) (c:List (Tr n × vW)),c.map (·.1)=Br.ks t/\sl=U d c.length cap/\c.length<=cap/\RdT n lo hi w d c/\∀ p ∈ c,PA n lo hi w p.1 p.2
def Kept (lo hi:Nat) (w w':wW):Prop:=∀ b o v,lo<=b->b<hi->w.cell? ⟨b,o,none⟩=some v->w'.cell? ⟨b,o,none⟩=some v
theorem Kept.of_fr (h:Fr S w w') (c:∀ k ∈ S,k<lo \/ hi<=k):Kept lo hi w w':=λb o v h1 h2 hc=>h.cell hc (λhm=>by have:=c b hm;omega)
theorem Kept.of_below (h:bL w w'):Kept lo hi w w':=λb o v _ _ c=>QC h c
theorem RdT.kept {d:Option Addr} {g:List (Tr n × vW)} (h:RdT n lo hi w d g) (o:Kept lo hi w w'):RdT n lo hi w' d g:=λi c=>by
 obtain ⟨bb,off,e,f,l,m⟩:=h i c;exact ⟨bb,off,e,f,l,λj v p=>o _ _ _ e f (m j v p)⟩
theorem PA.kept {lo hi:Nat} {w w':wW} (e:Kept lo hi w w'):∀ (n:Nat) (t:Tr n) (d:vW),PA n lo hi w t d->PA n lo hi w' t d
 | 0,t,_,_=>Empty.elim t
 | n+1,t,d,h=>by
  obtain ⟨f,cap,o,g,i,c,j,l⟩:=h;exact ⟨f,cap,o,g,i,c,j.kept e,λp m=>PA.kept e n p.1 p.2 (l p m)⟩
theorem PA.wide {lo hi d c:Nat} {w:wW} (j:d<=lo) (l:hi<=c):∀ (n:Nat) (t:Tr n) (f:vW),PA n lo hi w t f->PA n d c w t f
 | 0,t,_,_=>Empty.elim t
 | n+1,t,f,h=>by
  obtain ⟨g,cap,m,o,q,e,r,s⟩:=h;refine ⟨g,cap,m,o,q,e,λi hi=>?_,λp hp=>PA.wide j l n p.1 p.2 (s p hp)⟩;obtain ⟨bb,off,z,C,u,y⟩:=r i hi;exact ⟨bb,off,oM,oM,u,y⟩
theorem PA.slice {lo hi:Nat} {w:wW}:∀ {n:Nat} {t:Tr n} {d:vW},PA n lo hi w t d->∃ e m c,d=U e m c
 | 0,t,_,_=>Empty.elim t
 | n+1,t,d,h=>by
  obtain ⟨e,cap,i,j,f,g,l,o⟩:=h;exact ⟨_,_,_,f⟩
open Go.RowKit Wf
theorem zG0 (x:Wt.Nd) (w:wW):CR 149 #[gX (QN x).toArray] w (O J (Wt.parts x)):=by
 have p:=AtL.new0 w 98 (QN x);have e:=QJ (bZ _ w) (Z (QN x).toArray 98);have f:=p.2.1 0 _ rfl;have g:=p.2.1 9 _ rfl;clear p;unfold Wt.parts;by_cases c:x.k=4
 ·rw [if_pos c];rw [c] at f;clear c;go_enter func149,ntmps149;go_upto_region 1 with fail
  generalize (w.alloc (Z (QN x).toArray 98))=W at *;go_wp2;go_ret;exact ⟨rfl,e⟩
 rw [if_neg c];by_cases d:x.k=5
 ·rw [if_pos d];rw [d] at f;clear c d;go_enter func149,ntmps149;go_upto_region 1 with fail
  generalize (w.alloc (Z (QN x).toArray 98))=W at *;go_wp2;go_ret;exact ⟨rfl,e⟩
 rw [if_neg d];have i:(x.k == 4)=false:=by simpa using c
 have j:(x.k == 5)=false:=by simpa using d
 go_enter func149,ntmps149;go_upto_region 1 with fail
 generalize (w.alloc (Z (QN x).toArray 98))=W at *;go_wp2;go_ret;exact ⟨rfl,e⟩
theorem zOM (w:wW) (g o m cap:Nat):(Instr.sliceAt 100 (U (some ⟨g,o,none⟩) (m+1) cap) (some (O J 1)) none none).run prog w=.ok (sliced (some ⟨g,o,none⟩) 1 (m+1) cap 20) w:=by
 have c:prog.underlying 100=some (.slice (prog.elem 100)):=kR
 have d:(sizeOf (prog.elem 100)).run prog w=.ok 20 w:=kR
 rw [run_sliceAt_slice w _ _ _ _ _ c,run_slice_l w _ _ _ _ c _ 1 oM oM,d];rfl
theorem zGj (d:op.guard=none) (s:Operand) (j:op.op=.slice 100 s (some (.const (O J 1))) none none) (g o m cap:Nat) (l:a.eval s=U (some ⟨g,o,none⟩) (m+1) cap) (q:m+1<=cap)
  (h:∀ X C:Nat,(m ≠ 0->X=o+20)->m<=C->wpList prog ops Q rest (a.put op.dst (U (some ⟨g,X,none⟩) m C)) w):wpList prog ops Q (op::rest) a w:=by
 refine wpList_plain d λK f=>?_
 unfold Oper.wp execOp;have e:=zOM w g o m cap;have i:sliced (some ⟨g,o,none⟩) 1 (m+1) cap 20=U (some ⟨g,(if cap=1 then o else o+20),none⟩) m (cap - 1):=by
  unfold sliced;by_cases c:cap=1
  ·rw [if_pos c,if_pos c];rfl
  ·rw [if_neg c,if_neg c];rfl
 rw [i] at e;have p:a.eval (.const (O J 1))=O J 1:=rfl;simp only [j,l,p,Option.map_some,Option.map_none,Sem.run_bind,Sem.run_pure,iZ,e];exact f _ _ (h _ _ (λr=>by rw [if_neg oM]) oM)
theorem RdN.tail {X:Nat} {r:List Wt.Nd} (h:RdN w (some ⟨bb,off,none⟩) (x::r)) (c:r.length ≠ 0->X=off+20):RdN w (some ⟨bb,X,none⟩) r:=λi hi=>by
 obtain ⟨b2,f,e,d⟩:=h (i+1) (by simp;omega);cases e
 refine ⟨bb,X,rfl,?_⟩;rw [c oM,show off+20+i * 20=off+(i+1) * 20 from by omega];exact d
structure GrS (n b0:Nat) (w:wW) (pb:Nat) (x:Wt.Nd) (sv:vW) (ps:List (Tr n × vW)):Prop where
 at':AtL w pb (QP x sv)
 own:OwnP w (pb+1) sv (ps.map λp=>(hd n p.1,p.2))
 kids:∀ p ∈ ps,∃ lo hi,b0<=lo/\hi<=w.heap.size/\(∀ j,sv.ownBlock=some j->j<lo \/ hi<=j)/\pb<lo/\PA n lo hi w p.1 p.2
theorem GrS.below {d:List (Tr n × vW)} (h:GrS n b0 w pb x sv d) (c:bL w w'):GrS n b0 w' pb x sv d :=
 ⟨AtL.below c h.at',h.own.below c,λp l=>by
  obtain ⟨lo,hi,e,f,g,i,j⟩:=h.kids p l;exact ⟨lo,hi,e,pZ f c.size,g,i,PA.kept (Kept.of_below c) n _ _ j⟩⟩
theorem GrS.done {c:List (Tr n × vW)} (h:GrS n b0 w pb x sv c) (t:Tr (n+1)) (s:c.map (·.1)=Br.ks t):PA (n+1) pb w.heap.size w t sv:=by
 have q:∀ p ∈ c,PA n pb w.heap.size w p.1 p.2:=λp j=>by
  obtain ⟨lo,hi,y,f,o,z,C⟩:=h.kids p j;exact PA.wide (oY z) f n _ _ C
 have r:(c.map λp=>(hd n p.1,p.2)).length=c.length:=sM;rcases OwnP.cases h.own with ⟨e,j⟩ | ⟨g,cap,e,y,f,o⟩
 ·have l:c=[]:=by simpa using j
  subst l;exact ⟨none,0,[],s,e,cZ _,λi hi=>absurd hi (tZ _),q⟩
 ·rw [r] at e;refine ⟨_,cap,c,s,e,?_,λi hi=>?_,q⟩
  ·rcases h.own.2 with ⟨d,G⟩ | ⟨E,m,u,d,_,_,D,_⟩
   ·rw [d] at e;cases e
   ·rw [d] at e;simp only [U.injEq,List.length_map] at e D;omega
  ·refine ⟨g,0,oM,f,rfl,?_⟩;have:=o i (by rw [r];exact hi);simp only [iY] at this;rw [eY];exact this
theorem GrS.app {d:vW} {r:List (Tr n × vW)} (h:GrS n b0 w pb x sv r) {k:Tr n} {z:vW} {lo hi:Nat} (L:PA n lo hi w k z) (H:b0<=lo) (C:hi<=w.heap.size) (D:∀ j,sv.ownBlock=some j->j<lo) (E:pb<lo)
  (own:OwnP w1 (pb+1) d ((r.map λp=>(hd n p.1,p.2))++[(hd n k,z)])) (K:w.grownBy w1 sv.ownBlock) (hv:d.ownBlock=sv.ownBlock \/ d.ownBlock=some w.heap.size) :
  GrS n b0 (w1.setCell ⟨pb,20,none⟩ d) pb x d (r++[(k,z)])/\Fr (pb::sv.ownBlock.toList) w (w1.setCell ⟨pb,20,none⟩ d):=by
 have i:Fr sv.ownBlock.toList w w1:=Fr.of_grown K (λj e=>by simp [e]);have l:Fr [pb] w1 (w1.setCell ⟨pb,20,none⟩ d):=Fr.of_grown (QU _ _ _ _) (λj e=>by cases e;simp);have I:=h.at'.fr i (λe=>by have:=(QM h.own (show sv.ownBlock=some pb by simpa using e)).1;omega);have c:∀ (t:Tr n) (u:vW) (lo hi:Nat),(∀ j,sv.ownBlock=some j->j<lo \/ hi<=j)->pb<lo->PA n lo hi w t u->PA n lo hi (w1.setCell ⟨pb,20,none⟩ d) t u:=λt u lo hi s y m =>
  PA.kept (Kept.of_fr l (λj f=>by simp at f;omega)) n _ _ (PA.kept (Kept.of_fr i (λj f=>s j (by simpa using f))) n _ _ m)
 have g:=pZ i.size l.size;refine ⟨⟨I.set 20 d,?_,λp hp=>?_⟩,(i.mono (λj f=>yZ _ f)).trans (l.mono (λj f=>by simp at f;subst f;exact bY ..))⟩
 ·have:=Q2 l own (λj e=>by have:=(QM own e).1;simp;omega);simpa [OwnP] using this
 ·rcases List.mem_append.1 hp with hp | hp
  ·obtain ⟨q,o,s,y,m,G,M⟩:=h.kids p hp;refine ⟨q,o,s,pZ y g,λj e=>?_,G,c _ _ _ _ m G M⟩;rcases hv with hv | hv
   ·exact m j (by rw [<-hv];exact e)
   ·rw [hv] at e;cases e;exact Or.inr y
  ·simp only [List.mem_singleton] at hp;subst hp;refine ⟨lo,hi,H,pZ C g,λj e=>?_,E,c _ _ _ _ (λj e=>Or.inl (D j e)) E L⟩;rcases hv with hv | hv
   ·exact Or.inl (D j (by rw [<-hv];exact e))
   ·rw [hv] at e;cases e;exact Or.inr C
def GrP (n:Nat) (t:Tr n) (bb:Nat) (R:List Wt.Nd) (w:wW) (e:Ending) (w':wW):Prop :=
 (∃ (c:vW) (X L C:Nat),e=rX (uX #[gX (QP (hd n t) c).toArray,U (some ⟨bb,X,none⟩) L C])/\L=R.length/\PA n w.heap.size w'.heap.size w' t c/\RdN w' (some ⟨bb,X,none⟩) R/\L<=C)/\bL w w'
def GrC (n:Nat):Prop:=∀ (t:Tr n) (bb off L cap:Nat) (R:List Wt.Nd) (w:wW),Jw n t->L=(row n t++R).length->L<=300->L<=cap->RdN w (some ⟨bb,off,none⟩) (row n t++R) ->
 cW prog 115 #[U (some ⟨bb,off,none⟩) L cap] w (GrP n t bb R w)
theorem RdN.fr {L:List Wt.Nd} (h:RdN w (some ⟨bb,off,none⟩) L) (c:Fr S w w') (d:bb ∉ S):RdN w' (some ⟨bb,off,none⟩) L:=λi hi=>by
 obtain ⟨b2,g,e,f⟩:=h i hi;cases e
 exact ⟨bb,off,rfl,c.range f d⟩
theorem zIq (n:Nat) (ih:GrC n):GrC (n+1):=by
 intro t bb off L cap R w hF ab hL hC hR;obtain ⟨x,ks⟩:Br (Tr n):=t;obtain ⟨hx,hp,af⟩:=hF;replace hx:Wt.right x=true:=hx
 replace hp:Wt.parts x=(ks.length:Int):=hp
 replace af:∀ k ∈ ks,Jw n k:=af
 have ak:row (n+1) (⟨x,ks⟩:Br (Tr n))=x::(ks.map (row n)).flatten:=rfl;rw [ak,List.cons_append] at ab hR;unfold GrP;have a0:hd (n+1) (⟨x,ks⟩:Br (Tr n))=x:=rfl;simp only [a0];obtain ⟨b9,o9,e9,ah⟩:=hR 0 sM;cases e9
 have aC:hH (bb<w.heap.size):=Q8 (ah 0 _ rfl);have HF:=hid af;have HP:=hid hp;have aE:hH (∀ w:wW,CR 149 #[gX (QN x).toArray] w (O J (ks.length:Int))):=λw=>by rw [<-hp];exact zG0 x w
 have bf:=hid ih;have aH:hH (ks.length<=30):=by have:=(Wt.parts_le hx).2;show ks.length<=30;omega
 simp only [hY] at ab;obtain ⟨m,hm⟩:=xV (((ks.map (row n)).flatten++R).length)
 rw [hm] at ab;subst ab;have HM:hH (((ks.map (row n)).flatten++R).length=m/\m+1<=300):=⟨hm,hL⟩
 simp only [vZ,nY,Nat.add_zero] at ah;have HR:=hid hR;have bp:(0:Int)<((m+1:Nat):Int):=oM;clear hx hp af hR hL hm ih ak;have aw:AtL (w.alloc (Z zeros21 159)) w.heap.size zeros21.toList:=AtL.new0 w _ _;have ac:=QJ (bZ _ w) (Z zeros21 159);have h1:=QG ac ah;have aO:=hid (HR.out.below ac);clear ah HR;go_enter func115,ntmps115;go_upto_region 1 with fail
 generalize (w.alloc (Z zeros21 159))=o at *;have a6:AtL (o.alloc (Z zeros21 159)) o.heap.size zeros21.toList:=AtL.new0 o _ _;have s:kY (o.alloc (Z zeros21 159)) o.heap.size 0 (QP x (U none 0 0)).toArray.size:=a6.there;clear a6;go_upto_region 2 with (first | (refine QB (by rfl) 98 (mX 8) rfl bb off rfl (QN x) _ h1 underlying98 rfl kR ?_) | (refine zEV rfl (mX 9) rfl x rfl ?_) | ((with_reducible refine wpList_store_mid ?_ 159 (mX 4) (mX 10) ?_ o.heap.size 0 (QP x (U none 0 0)).toArray ?_ ?_ ?_ ?_ ?_ ?_);rfl;rfl;rfl;rfl;exact s;kernel_rfl;exact Qt _ _ _ _))
 have pP:AtL ((o.alloc (Z zeros21 159)).setCells o.heap.size 0 (QP x (U none 0 0))) o.heap.size (QP x (U none 0 0)):=(AtL.new0 o _ _:AtL (o.alloc (Z zeros21 159)) o.heap.size zeros21.toList).setAll rfl;have ad:bL o ((o.alloc (Z zeros21 159)).setCells o.heap.size 0 (QP x (U none 0 0))):=Qm (QJ (bZ _ o) _) (cZ _) _ 0;have a9:=AtL.below ad aw;have aX:=QA ac ad;have K:=hid (aO.out.below ad);have G:=hid aw.lt;clear s aw h1 ac ad aO;generalize ((o.alloc (Z zeros21 159)).setCells o.heap.size 0 (QP x (U none 0 0)))=W2 at *;obtain ⟨z,T⟩:∃ k,o.heap.size=k:=⟨_,rfl⟩
 rw [T] at pP G;simp only [T];clear T;have rN:=zBB pP.range;have CO:=aE.out W2;go_wp2_with (first | (refine zGj rfl (mX 11) rfl bb off m cap rfl hC ?_;intro X C hX a3) | (refine QB (by rfl) 98 (mX 13) rfl z 0 rfl (QN x) _ rN underlying98 rfl kR ?_))
 refine CO.mono ?_;rintro e w3 ⟨rfl,M⟩;have D:hH (GrS n w.heap.size w3 z x (U none 0 0) []):=⟨AtL.below M pP,OwnP.nil _ _,λp hp=>by cases hp⟩
 have HZ:=hid (AtL.below M a9);have ay:=hid (QA aX M);have aP:=hid ((K.out.tail (λh=>hX (by have:=HM.out.1;omega))).below M);have aD:=hid a3;have aJ:=hid HM.out.1;have aK:hH (m<=300):=by have:=HM.out.2;show m<=300;omega
 clear CO rN pP a9 aX M aE K hX a3 hC bp HM a0;go_wp2_with fail
 go_loopg [0,16] ks.length (λgk a b wr=>∃ (i L2 X2 C2:Nat) (sv:vW) (ps:List (Tr n × vW)),a=U (some ⟨bb,X2,none⟩) L2 C2/\b=O J (i:Int)/\gk=ks.length - i/\i<=ks.length/\hH (ps.map (·.1)=ks.take i)/\hH (RdN wr (some ⟨bb,X2,none⟩) (((ks.drop i).map (row n)).flatten++R))/\hH (L2=(((ks.drop i).map (row n)).flatten++R).length)/\hH (L2<=C2)/\hH (L2<=300)/\hH (GrS n w.heap.size wr z x sv ps)/\hH (AtL wr w.heap.size zeros21.toList)/\hH (bL w wr))
 case atStart=>exact ⟨0,_,_,_,_,[],rfl,rfl,rfl,gY _,(by simp:([]:List (Tr n × vW)).map (·.1)=ks.take 0),(by rw [mY];exact aP.out:RdN w3 _ _),(by rw [mY];exact aJ.out.symm:m=_),aD,aK,D,HZ,ay⟩
 case round =>
  clear aP aD aJ aK D HZ ay;obtain ⟨i,L2,X2,C2,sv,ps,rfl,rfl,hg,hi,I,HR,HL,HC,HM,D,HZ,HB⟩:=hrel;by_cases ag:i<ks.length
  ·have bo:(i:Int)<(ks.length:Int):=oM;have bq:J.wrap ((i:Int)+1)=(i:Int)+1:=by have:=aH.out;rw [nZ];omega
   have aZ:((ks.drop i).map (row n)).flatten++R=row n ks[i]++(((ks.drop (i+1)).map (row n)).flatten++R):=by
    rw [List.drop_eq_getElem_cons ag,qZ,List.flatten_cons,List.append_assoc]
   rw [aZ] at HR HL;have GR:=bf.out ks[i] bb X2 L2 C2 (((ks.drop (i+1)).map (row n)).flatten++R) wr (HF.out _ (List.getElem_mem ag)) HL.out HM.out HC.out HR.out;have aj:hH (ps.map (·.1)++[ks[i]]=ks.take (i+1)):=by show _=_;rw [I.out,List.take_succ_eq_append_getElem ag]
   have aL:hH ((((ks.drop (i+1)).map (row n)).flatten++R).length<=300):=by have:=HM.out;have h2:=HL.out;rw [dZ] at h2;show _<=300;omega
   have bi:hH (ps.length<=30):=by have:=congrArg List.length I.out;have:=aH.out;simp at *;show _<=30;omega
   clear aZ HR HC HM HL I;obtain ⟨kk,a1⟩:=xV (ks[i])
   rw [a1] at GR aj;clear a1;obtain ⟨R2,aq⟩:=xV (((ks.drop (i+1)).map (row n)).flatten++R)
   rw [aq] at GR aL;have K:=hid aq;clear aq;unfold GrP at GR;go_wp2_with fail
   refine GR.mono ?_;rintro e g ⟨⟨sl,X3,L3,C3,rfl,a2,av,a4,aY⟩,N⟩;obtain ⟨c,f,d,rfl⟩:=av.slice;have aF:=hid (D.out.below N);have aU:=hid (AtL.below N HZ.out);have az:=hid (QA HB.out N);have aM:=hid av;have aQ:=hid a4;have an:hH (L3=R2.length/\L3<=C3):=⟨a2,aY⟩
   have r:hH (z<wr.heap.size/\wr.heap.size<=g.heap.size/\w.heap.size<=wr.heap.size/\∀ j,sv.ownBlock=some j->z+1<=j/\j<wr.heap.size):=⟨D.out.at'.lt,N.size,HB.out.size,λj e=>QM D.out.own e⟩
   clear av a4 a2 aY N D HZ HB GR;have s:kY (g.alloc (Z zeros21 159)) g.heap.size 0 (QP (hd n kk) (U c f d)).toArray.size:=(AtL.new0 g _ _:AtL (g.alloc (Z zeros21 159)) g.heap.size zeros21.toList).there;have aa:hH (AtL ((g.alloc (Z zeros21 159)).setCells g.heap.size 0 (QP (hd n kk) (U c f d))) g.heap.size (QP (hd n kk) (U c f d))):=(AtL.new0 g _ _:AtL (g.alloc (Z zeros21 159)) g.heap.size zeros21.toList).setAll rfl;have l:bL g ((g.alloc (Z zeros21 159)).setCells g.heap.size 0 (QP (hd n kk) (U c f d))):=Qm (QJ (bZ _ g) _) (cZ _) _ 0;have am:=hid l;clear l;obtain ⟨y,hy⟩:=xV (hd n kk)
   have HY:=hid hy;rw [hy] at s aa am ⊢;clear hy;go_upto_region 6 with (first | ((with_reducible refine wpList_store_mid ?_ 159 (mX 5) (mX 21) ?_ g.heap.size 0 (QP y (U c f d)).toArray ?_ ?_ ?_ ?_ ?_ ?_);rfl;rfl;rfl;rfl;exact s;kernel_rfl;exact Qt _ _ _ _))
   clear s;have l:=am.out;have al:=hid (aF.out.below l);have aV:=hid (AtL.below l aU.out);have aA:=hid (QA az.out l);have H:hH (PA n wr.heap.size g.heap.size ((g.alloc (Z zeros21 159)).setCells g.heap.size 0 (QP y (U c f d))) kk (U c f d)):=PA.kept (Kept.of_below l) n _ _ aM.out;have aR:=hid (aQ.out.below l);have ao:=hid l.size;clear l am aF aU az aM aQ;generalize ((g.alloc (Z zeros21 159)).setCells g.heap.size 0 (QP y (U c f d)))=W5 at *;obtain ⟨ib,au⟩:∃ k,g.heap.size=k:=⟨_,rfl⟩
   rw [au] at aa H r ao;simp only [au];clear au;have rI:=aa.out.range;have bm:W5.cell? ⟨z,20,none⟩=some sv:=al.out.at'.2.1 20 sv rfl;have u:=QJ (bZ _ W5) (Z (QP y (U c f d)).toArray 159);have ax:=hid ((AtL.new0 W5 159 (QP y (U c f d))).range);have E:=hid (al.out.below u);have aW:=hid (AtL.below u aV.out);have aB:=hid (QA aA.out u);have ai:hH (PA n wr.heap.size ib (W5.alloc (Z (QP y (U c f d)).toArray 159)) kk (U c f d)):=PA.kept (Kept.of_below u) n _ _ H.out;have aS:=hid (aR.out.below u);have aT:=hid (pZ ao.out u.size);have aI:=hid (E.out.at'.lt);clear u al aV aA H aR ao aa;go_wp2_with (first
    | (refine QB (by rfl) 159 (mX 5) rfl ib 0 rfl (QP y (U c f d)) _ rI underlying159 rfl kR ?_)
    | (refine zA8 rfl (mX 25) rfl y c f d rfl ?_;clear rI bm)
    | (
      refine zAa rfl (mX 24) (mX 26) rfl (W5.alloc (Z (QP y (U c f d)).toArray 159)) (z+1) aI.out sv (ps.map λp=>(hd n p.1,p.2)) rfl E.out.own W5.heap.size y c f d rfl ax.out (λ_=>by have:=bi.out;simp;omega) ?_;intro v7 w7 W ar a5;obtain ⟨a8,m8,c8,rfl⟩:=W.slice;have aG:=E.out.app ai.out (by have:=r.out;omega) aT.out (λj e=>(r.out.2.2.2 j e).2) r.out.1 (by rw [HY.out];exact W) ar a5;have f7:Fr sv.ownBlock.toList (W5.alloc (Z (QP y (U c f d)).toArray 159)) w7:=Fr.of_grown ar (λj e=>by simp [e]);have a7:=E.out.at'.fr f7 (λe=>by have:=(r.out.2.2.2 z (by simpa using e)).1;omega);have c7:w7.cell? ⟨z,20,none⟩=some sv:=a7.2.1 20 sv rfl;have z7:=a7.2.2 20 (by rw [zBP];omega);have HH:hH (GrS n w.heap.size (w7.setCell ⟨z,20,none⟩ (U a8 m8 c8)) z x (U a8 m8 c8) (ps++[(kk,U c f d)])/\Fr (z::sv.ownBlock.toList) (W5.alloc (Z (QP y (U c f d)).toArray 159)) (w7.setCell ⟨z,20,none⟩ (U a8 m8 c8))):=aG;clear aG f7 a7 W ar a5))
   have ae:=HH.out.2;have bl:=hid (aW.out.fr ae (λe=>by
    have h9:=r.out;have:=G.out;rcases List.mem_cons.1 e with q | q
    ·omega
    ·have:=(h9.2.2.2 w.heap.size (by simpa using q)).1;omega))
   have ba:=hid (zB5 aB.out ae (λj e=>by
    have h9:=r.out;have:=G.out;rcases List.mem_cons.1 e with q | q
    ·omega
    ·have:=(h9.2.2.2 j (by simpa using q)).1;omega))
   have bj:=hid (aS.out.fr ae (λe=>by
    have h9:=r.out;have:=G.out;have:=aC.out;rcases List.mem_cons.1 e with q | q
    ·omega
    ·have:=(h9.2.2.2 bb (by simpa using q)).1;omega))
   have be:=hid HH.out.1;clear ae HH aW aB aS E ai ax aT aI c7 z7;go_roundg (ks.length - (i+1))
   case rel =>
    refine ⟨i+1,_,_,_,_,ps++[(kk,U c f d)],rfl,sM,rfl,ag,(by rw [List.map_append];exact aj.out:_=_),(by rw [K.out];exact bj.out:RdN _ _ _),(by rw [K.out];exact an.out.1:_=_),an.out.2,(by have:=an.out.1;have:=aL.out;omega:L3<=300),be,bl,ba⟩
   case measure=>omega
  ·have bo:¬ (i:Int)<(ks.length:Int):=oM;have bn:i=ks.length:=oM;subst bn;have bg:hH (L2=R.length):=by show _=_;have:=HL.out;rw [lY] at this;simpa using this
   have bk:hH (RdN wr (some ⟨bb,X2,none⟩) R):=by show RdN _ _ _;have:=HR.out;rw [lY] at this;simpa using this
   obtain ⟨c,f,d,rfl⟩:=D.out.own.slice;have rP:=D.out.at'.range;have s:kY wr w.heap.size 0 (QP x (U c f d)).toArray.size:=HZ.out.there;have pF:AtL (wr.setCells w.heap.size 0 (QP x (U c f d))) w.heap.size (QP x (U c f d)):=HZ.out.setAll rfl;have bh:=hid pF.range;have bc:hH (bL w (wr.setCells w.heap.size 0 (QP x (U c f d)))):=Qm HB.out (cZ _) _ 0;have aN:hH (PA (n+1) z wr.heap.size wr (⟨x,ks⟩:Br (Tr n)) (U c f d)):=D.out.done _ (by rw [I.out,List.take_length]);have bd:hH (Fr [w.heap.size] wr (wr.setCells w.heap.size 0 (QP x (U c f d)))):=Qj _ _ _ _;clear pF D HZ HB HR HL I;go_wp2_with (first | (refine QB (by rfl) 159 (mX 4) rfl z 0 rfl (QP x (U c f d)) _ rP underlying159 rfl kR ?_) | ((with_reducible refine wpList_store_mid ?_ 159 (mX 2) (mX 31) ?_ w.heap.size 0 (QP x (U c f d)).toArray ?_ ?_ ?_ ?_ ?_ ?_);rfl;rfl;rfl;rfl;exact s;kernel_rfl;exact Qt _ _ _ _))
   have T:=G.out;have ap:=bd.out;refine bodyPost_ret (zCp (by rfl) _ _ w.heap.size (QP x (U c f d)) _ (by rfl) bh.out underlying159 rfl kR) rfl ⟨⟨_,_,_,_,rfl,bg.out,PA.wide (oY T) ap.size (n+1) _ _ (PA.kept (Kept.of_fr ap (λj hj=>by simp at hj;omega)) (n+1) _ _ aN.out),bk.out.fr ap (by have:=aC.out;simp;omega),HC.out⟩,bc.out⟩
theorem zFV:∀ n,GrC n
 | 0=>λt=>Empty.elim t
 | n+1=>zIq n (zFV n)
