/- Lemmas. -/
import Derived.Test.YtefkclbaflkheaaGreatDoorQ02
set_option maxHeartbeats 1600000
set_option maxRecDepth 100000
namespace Go.Proofs.YtefkclbaflkheaaGreatDoor
open Tryz
variable {w w':World} {mb b:Nat} {F:List (Nat × Int)} {lv:Value}
open Go.RowKit
open Go.ChangeMaps (setBlock heap_setBlock_same heap_setBlock_other)
set_option linter.unusedVariables false
theorem zAZ (w:World) (b:Nat) (v:Value) {i j:Nat} (h:i ≠ j):(w.setCell ⟨b,i,none⟩ v).cell? ⟨b,j,none⟩=w.cell? ⟨b,j,none⟩:=by
 simp [World.cell?,World.setCell,Array.getElem?_modify];cases w.heap[b]? with
 | none=>rfl
 | some o=>cases o <;> simp [h]
theorem zA7 {i:Nat} {u:Value} (h:w.cell? ⟨b,i,none⟩=some u) (v:Value):(w.setCell ⟨b,i,none⟩ v).cell? ⟨b,i,none⟩=some v:=by
 unfold World.cell? at h;simp only [Option.isSome_none] at h;cases hq:w.heap[b]? with
 | none=>rw [hq] at h;cases h
 | some o =>
  rw [hq] at h;cases o with
  | cells c t f =>
   have h2:c[i]? = some u:=by simpa using h
   have h3:=(Array.getElem?_eq_some_iff.1 h2).1;simp [World.cell?,World.setCell,Array.getElem?_modify,hq,h3]
  | _=>simp at h
theorem zGE {g' n c x g:Nat} (hx:x<g') (e:(Value.slice (some ⟨g',0,none⟩) n c).ownBlock=some g):g ∉ [x]:=by
 have e2:g'=g:=by simpa [Value.ownBlock] using e
 subst e2;simp;omega
theorem zAP (w:World) (b i:Nat) (v:Value):w.grownBy (w.setCell ⟨b,i,none⟩ v) (some b) :=
 ⟨rfl,rfl,rfl,by simp [World.setCell],λk _ hk=>by simp [World.setCell,Array.getElem?_modify];intro e;exact absurd (by rw [e]) hk⟩
theorem FS.fr {S:List Nat} (h:FS w b mb lv F) (hf:Fr S w w') (hb:b ∉ S) (hm:mb ∉ S) (hl:∀ g,lv.ownBlock=some g->g ∉ S):FS w' b mb lv F :=
 ⟨hf.cell h.hd hb,by rw [hf.frozen (zA5 h.hd) hb];exact h.hf,zAW hf h.own hl,hf.cell h.mp hb,hf.fm h.fm hm,h.lt⟩
theorem FS.below (h:FS w b mb lv F) (hb:Below w.heap.size w w'):FS w' b mb lv F :=
 h.fr (Fr.of_below [] hb) (by simp) (by simp) (by simp)
theorem zOx:prog.underlying 123=some (.map 193 3):=by kernel_rfl
theorem zIL (h:FM w mb F) {x:Nat × Int} {k:Nat} (hk:F.findIdx? (· == x)=some k):(Instr.lookup 123 (.map (some mb)) (fr2 x) true).run prog w=.ok (.tuple #[.int .i64 ((k:Int)+1),.bool true]) w:=by
 obtain ⟨es,h1,h2⟩:=h;refine zA3 (j:=k) zOx h1 (zOj _ _ _ _) ?_;rw [h2,zPA,hk];rfl
theorem zGs (h:FM w mb F) {x:Nat × Int} (hk:F.findIdx? (· == x)=none):(Instr.lookup 123 (.map (some mb)) (fr2 x) true).run prog w=.ok (.tuple #[.int .i64 0,.bool false]) w:=by
 obtain ⟨es,h1,h2⟩:=h;refine zCn zOx h1 (zOj _ _ _ _) ?_ (by kernel_rfl);rw [h2,zPA,hk];rfl
theorem zPN (h:FM w mb F) {x:Nat × Int} (hk:F.findIdx? (· == x)=none):∃ w',(Instr.mapUpdate 123 (.map (some mb)) (fr2 x) (.int .i64 ((F.length:Int)+1))).run prog w=.ok () w'/\FM w' mb (F++[x])/\w.grownBy w' (some mb):=by
 obtain ⟨es,h1,h2⟩:=h;refine ⟨_,zEn zOx h1 _ (zOj _ _ _ _) (by rw [h2,zPA,hk];rfl),⟨es.push ⟨fr2 x,.int .i64 ((F.length:Int)+1),F.length⟩,?_,?_⟩,zBf h1 _⟩
 ·rw [heap_setBlock_same h1,List.length_append];rfl
 ·rw [Array.toList_push,h2,zFX];simp
theorem zKa (b mb:Nat) (lv:Value) (F:List (Nat × Int)) (m:Nat) (a:Int) (k:Nat) (w:World) (hfs:FS w b mb lv F) (hk:F.findIdx? (· == (m,a))=some k) :
  CR 142 #[.pointer (some ⟨b,1,none⟩),.int .i64 (m:Int),.int .i64 a] w (.int .i64 ((k:Int)+1)):=by
 have hB:=zAM (Below.refl _ w) (.cells #[.int .i64 (m:Int),.int .i64 a] 193);have pR:=AtL.new0 w 193 [.int .i64 (m:Int),.int .i64 a];have hS:=FS.below hfs hB;go_enter func142,ntmps142;go_upto_region 2 with fail
 generalize (w.alloc (.cells #[.int .i64 (m:Int),.int .i64 a] 193))=W at *;replace hB:=hB.drew
 replace pR:=AtL.drew pR
 replace hS:=FS.below hS (Below.refl _ W).drew
 have r0:=pR.2.1 0 _ rfl;have r1:=pR.2.1 1 _ rfl;have c1:=hS.hd;have c2:=hS.mp;have hlk:=zIL hS.fm hk;unfold fr2 at hlk;clear hfs hk pR;refine wp_region_held_drew (S:=λW=>W.cell? ⟨b,1,none⟩=some lv/\W.cell? ⟨b,2,none⟩=some (.map (some mb))/\W.cell? ⟨w.heap.size,0,none⟩=some (.int .i64 (m:Int))/\W.cell? ⟨w.heap.size,1,none⟩=some (.int .i64 a)) (by kernel_rfl) ⟨c1,c2,r0,r1⟩ (λhHeld=>?_);generalize W.drew=wd at *;refine tkQ 0 ?_
 refine tkQ 1 ?_
 refine tkQ 2 ?_
 refine tkQ 3 ?_
 refine tkQ 4 ?_
 refine rdQ 5 (λK hK=>?_);go_simp
 refine hkQ hK (⟨c1,c2,r0,r1⟩) (λhHeld=>?_);clear hK K
 refine tkQ 6 ?_
 refine tkQ 7 ?_
 refine tkQ 8 ?_
 refine rdQ 9 (λK hK=>?_);go_simp
 refine hkQ hK (⟨c1,c2,r0,r1⟩) (λhHeld=>?_);clear hK K
 refine rdQ 10 (λK hK=>?_);go_simp
 refine hkQ hK (⟨c1,c2,r0,r1⟩) (λhHeld=>?_);clear hK K
 refine wpAnyH_done (by kernel_rfl) ?_ _;clear hHeld hlk;go_wp2;go_ret;exact ⟨rfl,hB⟩
theorem zFa:(prog.info? 193).map (λi=>(i.zero,i.size,i.bytes))=some (some (.agg #[.int .i64 0,.int .i64 0]),2,16):=by kernel_rfl
theorem zJH (b mb:Nat) (lv:Value) (F:List (Nat × Int)) (m:Nat) (a:Int) (w:World) (hfs:FS w b mb lv F) (hlF:F.length<=1000000) (hk:F.findIdx? (· == (m,a))=none) :
  Calls prog 142 #[.pointer (some ⟨b,1,none⟩),.int .i64 (m:Int),.int .i64 a] w λe w'=>e=.returned (.int .i64 ((F.length:Int)+1))/\(∃ lv',FS w' b mb lv' (F++[(m,a)]))/\Fr (b::mb::lv.ownBlock.toList) w w'/\(∀ u,w.cell? ⟨b,0,none⟩=some u->w'.cell? ⟨b,0,none⟩=some u):=by
 have HG:Hid (∀ g,lv.ownBlock=some g->b+1<=g/\g<w.heap.size):=λg e=>zAK hfs.own e
 have hB:=zAM (Below.refl _ w) (.cells #[.int .i64 (m:Int),.int .i64 a] 193);have pR:=AtL.new0 w 193 [.int .i64 (m:Int),.int .i64 a];have hS:=FS.below hfs hB;go_enter func142,ntmps142;go_upto_region 2 with fail
 generalize (w.alloc (.cells #[.int .i64 (m:Int),.int .i64 a] 193))=W at *;replace hB:=hB.drew
 replace pR:=AtL.drew pR
 replace hS:=FS.below hS (Below.refl _ W).drew
 have r0:=pR.2.1 0 _ rfl;have r1:=pR.2.1 1 _ rfl;have c1:=hS.hd;have c2:=hS.mp;have hlk:=zGs hS.fm hk;unfold fr2 at hlk;have HK:Hid (F.findIdx? (· == (m,a))=none):=hk;clear hk;refine wp_region_held_drew (S:=λW=>W.cell? ⟨b,1,none⟩=some lv/\W.cell? ⟨b,2,none⟩=some (.map (some mb))/\W.cell? ⟨w.heap.size,0,none⟩=some (.int .i64 (m:Int))/\W.cell? ⟨w.heap.size,1,none⟩=some (.int .i64 a)) (by kernel_rfl) ⟨c1,c2,r0,r1⟩ (λhHeld=>?_);generalize W.drew=wd at *;refine tkQ 0 ?_
 refine tkQ 1 ?_
 refine tkQ 2 ?_
 refine tkQ 3 ?_
 refine tkQ 4 ?_
 refine rdQ 5 (λK hK=>?_);go_simp
 refine hkQ hK (⟨c1,c2,r0,r1⟩) (λhHeld=>?_);clear hK K
 refine tkQ 6 ?_
 refine tkQ 7 ?_
 refine tkQ 8 ?_
 refine rdQ 9 (λK hK=>?_);go_simp
 refine hkQ hK (⟨c1,c2,r0,r1⟩) (λhHeld=>?_);clear hK K
 refine rdQ 10 (λK hK=>?_);go_simp
 refine hkQ hK (⟨c1,c2,r0,r1⟩) (λhHeld=>?_);clear hK K
 refine wpAnyH_done (by kernel_rfl) ?_ _;clear hHeld hlk;go_upto_region 4 with fail
 have hb5:=(Below.refl wd.heap.size wd).drew;replace hB:=hB.drew
 replace pR:=AtL.drew pR
 replace hS:=FS.below hS hb5
 clear r0 r1 c1 c2 hb5;have r0:=pR.2.1 0 _ rfl;have r1:=pR.2.1 1 _ rfl;have c1:=hS.hd;have c2:=hS.mp;have hb6:∀ we:World,Below we.heap.size we (we.alloc (.cells #[.int .i64 (m:Int),.int .i64 a] 193)):=λwe=>zAM (Below.refl _ we) _
 refine wp_region_held_drew (S:=λW=>W.cell? ⟨b,2,none⟩=some (.map (some mb))/\W.cell? ⟨w.heap.size,0,none⟩=some (.int .i64 (m:Int))/\W.cell? ⟨w.heap.size,1,none⟩=some (.int .i64 a)) (by kernel_rfl) ⟨c2,r0,r1⟩ (λhHeld=>?_);generalize wd.drew=we at *;refine tkQ 0 ?_
 refine tkQ 1 ?_
 refine tkQ 2 ?_
 refine tkQ 3 ?_
 refine tkQ 5 ?_
 refine wpAnyH_ready (rs:=[4,6]) (by kernel_rfl) (by simp) ?_;refine AllReadyH.cons (atQ rfl) (λK hK=>?_) (AllReadyH.cons (atQ rfl) (λK hK=>?_) AllReadyH.nil)
 ·go_simp
  refine hkQ hK ⟨c2,r0,r1⟩ (λhHeld=>?_);clear hK K
  refine rdQ 6 (λK hK=>?_);go_simp
  refine hkQ hK (⟨zAC (hb6 we) c2,zAC (hb6 we) r0,zAC (hb6 we) r1⟩) (λhHeld=>?_);clear hK K
  have pN:=AtL.new0 we 193 [.int .i64 (m:Int),.int .i64 a];replace hS:=FS.below hS (hb6 we)
  replace hB:=zAB hB (hb6 we)
  replace r0:=zAC (hb6 we) r0
  replace r1:=zAC (hb6 we) r1
  replace c1:=zAC (hb6 we) c1
  replace c2:=zAC (hb6 we) c2
  replace pR:=AtL.below (hb6 we) pR
  generalize (we.alloc (.cells #[.int .i64 (m:Int),.int .i64 a] 193))=wf at *;clear hb6;obtain ⟨i0,hi0,hz0,hz1,hz2⟩:=info_parts zFa;refine rdQ 7 (λK hK=>?_);refine wp_append_own _ (.tmp 28) (.tmp 30) 124 rfl (b+1) 193 i0 _ 2 16 underlying124 hi0 hz0 hz1 hz2 rfl (by decide) lv F.length (zBd F) rfl hS.own ⟨we.heap.size,0,none⟩ 1 1 (zBd [(m,a)]) rfl rfl (λj u hj=>by have:=pN.2.1 j u hj;rw [show (⟨we.heap.size,0,none⟩:Addr).add j=⟨we.heap.size,j,none⟩ from by simp [Addr.add];intro h;exact h.symm];exact this) (by intro u hu;simp [zBd] at hu;rcases hu with rfl | rfl <;> rfl) (by unfold maxLen;omega) (by omega) (zA5 c1) ?_;intro v' w7 own hg _;obtain ⟨g',cap',ev⟩:∃ g' cap',v'=.slice (some ⟨g',0,none⟩) (F.length+1) cap':=by
   rcases own.2 with ⟨_,h0⟩ | ⟨g',cap',cur',e,_⟩
   ·omega
   ·exact ⟨g',cap',e⟩
  subst ev;have fr7:Fr lv.ownBlock.toList wf w7:=Fr.of_grown hg (λk e=>by simp [e]);have nb:b ∉ lv.ownBlock.toList:=λe=>by have:=HG.out b (by simpa using e);omega
  have nm:mb ∉ lv.ownBlock.toList:=λe=>by have:=HG.out mb (by simpa using e);have:=hS.lt;omega
  have nr:w.heap.size ∉ lv.ownBlock.toList:=λe=>by have:=HG.out w.heap.size (by simpa using e);omega
  have f1:w7.frozen? ⟨b,1,none⟩=false:=by rw [fr7.frozen (zA5 c1) nb];exact hS.hf
  replace c1:=fr7.cell c1 nb
  replace c2:=fr7.cell c2 nb
  replace r0:=fr7.cell r0 nr
  replace r1:=fr7.cell r1 nr
  have fm7:=fr7.fm hS.fm nm;have FB:Fr (b::mb::lv.ownBlock.toList) w w7:=(Fr.of_below _ hB).trans (fr7.mono (λk hk=>by simp [hk]));have HZ0:Hid (∀ u,w.cell? ⟨b,0,none⟩=some u->w7.cell? ⟨b,0,none⟩=some u):=λu hu=>fr7.cell (zAC hB hu) nb
  refine hkQ hK ⟨c2,r0,r1⟩ (λhHeld=>?_);clear hK K
  refine tkQ 8 ?_
  refine tkQ 9 ?_
  refine rdQ 10 (λK hK=>?_);have nrb:w.heap.size ≠ b:=by have:=zA5 hfs.hd;omega
  have e2:(w7.setCell ⟨b,1,none⟩ (.slice (some ⟨g',0,none⟩) (F.length+1) cap')).cell? ⟨b,2,none⟩=some (.map (some mb)):=by rw [zAZ _ _ _ (by decide)];exact c2
  have e0:(w7.setCell ⟨b,1,none⟩ (.slice (some ⟨g',0,none⟩) (F.length+1) cap')).cell? ⟨w.heap.size,0,none⟩=some (.int .i64 (m:Int)):=by rw [World.cell?_setCell_far _ _ _ _ (by simp;omega)];exact r0
  have e1:(w7.setCell ⟨b,1,none⟩ (.slice (some ⟨g',0,none⟩) (F.length+1) cap')).cell? ⟨w.heap.size,1,none⟩=some (.int .i64 a):=by rw [World.cell?_setCell_far _ _ _ _ (by simp;omega)];exact r1
  go_simp
  refine hkQ hK ⟨e2,e0,e1⟩ (λhHeld=>?_);clear hK K
  refine wpAnyH_done (by kernel_rfl) ?_ _;clear hHeld;have fr8:Fr [b] w7 (w7.setCell ⟨b,1,none⟩ (.slice (some ⟨g',0,none⟩) (F.length+1) cap')):=Fr.of_grown (zAP _ _ _ _) (λk e=>by cases e;simp);have d1:(w7.setCell ⟨b,1,none⟩ (.slice (some ⟨g',0,none⟩) (F.length+1) cap')).cell? ⟨b,1,none⟩=some (.slice (some ⟨g',0,none⟩) (F.length+1) cap'):=zA7 c1 _;have d2:(w7.setCell ⟨b,1,none⟩ (.slice (some ⟨g',0,none⟩) (F.length+1) cap')).frozen? ⟨b,1,none⟩=false:=by rw [World.frozen?_setCell];exact f1
  have gb:=(zAK own (g:=g') rfl).1;have own8:=zAW fr8 own (λg e=>zGE (by omega) e);have fm8:=fr8.fm fm7 (by have:=hS.lt;simp;omega);replace FB:=FB.trans (fr8.mono (λk hk=>by simp at hk;simp [hk]))
  have HZ1:Hid (∀ u,w.cell? ⟨b,0,none⟩=some u->(w7.setCell ⟨b,1,none⟩ (.slice (some ⟨g',0,none⟩) (F.length+1) cap')).cell? ⟨b,0,none⟩=some u):=λu hu=>by rw [zAZ _ _ _ (by decide)];exact HZ0.out u hu
  have hlt:=hS.lt;clear HZ0 c1 c2 r0 r1 f1 fr7 fr8 fm7 own hg nb nm nr pN pR hS hB hi0 hz0 hz1 hz2 HG;generalize w7.setCell ⟨b,1,none⟩ (.slice (some ⟨g',0,none⟩) (F.length+1) cap')=w8 at *;go_upto_region 6 with fail
  have hd8:=(Below.refl w8.heap.size w8).drew;replace FB:=FB.trans (Fr.of_below _ hd8)
  replace HZ1:Hid (∀ u,w.cell? ⟨b,0,none⟩=some u->w8.drew.cell? ⟨b,0,none⟩=some u):=λu hu=>zAC hd8 (HZ1.out u hu)
  replace d1:=zAC hd8 d1
  replace e2:=zAC hd8 e2
  replace e0:=zAC hd8 e0
  replace e1:=zAC hd8 e1
  have d2:w8.drew.frozen? ⟨b,1,none⟩=false:=d2;replace own8:=zAW (Fr.of_below [] hd8) own8 (by simp)
  replace fm8:=fm8.below hd8
  clear hd8;refine wp_region_held_drew (S:=λW=>W.cell? ⟨b,2,none⟩=some (.map (some mb))/\W.cell? ⟨w.heap.size,0,none⟩=some (.int .i64 (m:Int))/\W.cell? ⟨w.heap.size,1,none⟩=some (.int .i64 a)) (by kernel_rfl) ⟨e2,e0,e1⟩ (λhHeld=>?_);generalize w8.drew=w9 at *;refine tkQ 0 ?_
  refine tkQ 1 ?_
  refine tkQ 2 ?_
  refine tkQ 3 ?_
  refine tkQ 4 ?_
  refine tkQ 5 ?_
  obtain ⟨wu,hu,fmu,hgu⟩:=zPN fm8 HK.out;unfold fr2 at hu;have fru:Fr [mb] w9 wu:=Fr.of_grown hgu (λk e=>by cases e;simp);have nbm:b ∉ [mb]:=by simp;omega
  have nrm:w.heap.size ∉ [mb]:=by have:=zA5 hfs.hd;simp;omega
  refine rdQ 6 (λK hK=>?_);go_simp
  refine hkQ hK (⟨fru.cell e2 nbm,fru.cell e0 nrm,fru.cell e1 nrm⟩) (λhHeld=>?_);clear hK K
  refine wpAnyH_done (by kernel_rfl) ?_ _;clear hHeld;have fin:FS wu b mb (.slice (some ⟨g',0,none⟩) (F.length+1) cap') (F++[(m,a)]):=⟨fru.cell d1 nbm,by rw [fru.frozen (zA5 d1) nbm];exact d2,by rw [List.length_append,zCh];exact zAW fru own8 (λg e=>zGE (by omega) e),fru.cell e2 nbm,fmu,hlt⟩
  have HZ2:∀ u,w.cell? ⟨b,0,none⟩=some u->wu.cell? ⟨b,0,none⟩=some u:=λu hu=>fru.cell (HZ1.out u hu) nbm
  have FC:=FB.trans (fru.mono (λk hk=>by simp at hk;simp [hk]));have HFIN:Hid (FS wu b mb (.slice (some ⟨g',0,none⟩) (F.length+1) cap') (F++[(m,a)])):=fin;clear fin hu fmu hgu fru d1 d2 e0 e1 e2 own8 fm8 FB HZ1;go_wp2;go_ret;exact ⟨by simp,⟨_,HFIN.out⟩,FC,HZ2⟩
 ·go_simp
  refine hkQ hK (⟨zAC (hb6 we) c2,zAC (hb6 we) r0,zAC (hb6 we) r1⟩) (λhHeld=>?_);clear hK K
  have pN:=AtL.new0 we 193 [.int .i64 (m:Int),.int .i64 a];replace hS:=FS.below hS (hb6 we)
  replace hB:=zAB hB (hb6 we)
  replace r0:=zAC (hb6 we) r0
  replace r1:=zAC (hb6 we) r1
  replace c1:=zAC (hb6 we) c1
  replace c2:=zAC (hb6 we) c2
  replace pR:=AtL.below (hb6 we) pR
  generalize (we.alloc (.cells #[.int .i64 (m:Int),.int .i64 a] 193))=wf at *;refine rdQ 4 (λK hK=>?_);go_simp
  refine hkQ hK (⟨c2,r0,r1⟩) (λhHeld=>?_);clear hK K
  clear hb6;obtain ⟨i0,hi0,hz0,hz1,hz2⟩:=info_parts zFa;refine rdQ 7 (λK hK=>?_);refine wp_append_own _ (.tmp 28) (.tmp 30) 124 rfl (b+1) 193 i0 _ 2 16 underlying124 hi0 hz0 hz1 hz2 rfl (by decide) lv F.length (zBd F) rfl hS.own ⟨we.heap.size,0,none⟩ 1 1 (zBd [(m,a)]) rfl rfl (λj u hj=>by have:=pN.2.1 j u hj;rw [show (⟨we.heap.size,0,none⟩:Addr).add j=⟨we.heap.size,j,none⟩ from by simp [Addr.add];intro h;exact h.symm];exact this) (by intro u hu;simp [zBd] at hu;rcases hu with rfl | rfl <;> rfl) (by unfold maxLen;omega) (by omega) (zA5 c1) ?_;intro v' w7 own hg _;obtain ⟨g',cap',ev⟩:∃ g' cap',v'=.slice (some ⟨g',0,none⟩) (F.length+1) cap':=by
   rcases own.2 with ⟨_,h0⟩ | ⟨g',cap',cur',e,_⟩
   ·omega
   ·exact ⟨g',cap',e⟩
  subst ev;have fr7:Fr lv.ownBlock.toList wf w7:=Fr.of_grown hg (λk e=>by simp [e]);have nb:b ∉ lv.ownBlock.toList:=λe=>by have:=HG.out b (by simpa using e);omega
  have nm:mb ∉ lv.ownBlock.toList:=λe=>by have:=HG.out mb (by simpa using e);have:=hS.lt;omega
  have nr:w.heap.size ∉ lv.ownBlock.toList:=λe=>by have:=HG.out w.heap.size (by simpa using e);omega
  have f1:w7.frozen? ⟨b,1,none⟩=false:=by rw [fr7.frozen (zA5 c1) nb];exact hS.hf
  replace c1:=fr7.cell c1 nb
  replace c2:=fr7.cell c2 nb
  replace r0:=fr7.cell r0 nr
  replace r1:=fr7.cell r1 nr
  have fm7:=fr7.fm hS.fm nm;have FB:Fr (b::mb::lv.ownBlock.toList) w w7:=(Fr.of_below _ hB).trans (fr7.mono (λk hk=>by simp [hk]));have HZ0:Hid (∀ u,w.cell? ⟨b,0,none⟩=some u->w7.cell? ⟨b,0,none⟩=some u):=λu hu=>fr7.cell (zAC hB hu) nb
  refine hkQ hK ⟨c2,r0,r1⟩ (λhHeld=>?_);clear hK K
  refine tkQ 8 ?_
  refine tkQ 9 ?_
  refine rdQ 10 (λK hK=>?_);have nrb:w.heap.size ≠ b:=by have:=zA5 hfs.hd;omega
  have e2:(w7.setCell ⟨b,1,none⟩ (.slice (some ⟨g',0,none⟩) (F.length+1) cap')).cell? ⟨b,2,none⟩=some (.map (some mb)):=by rw [zAZ _ _ _ (by decide)];exact c2
  have e0:(w7.setCell ⟨b,1,none⟩ (.slice (some ⟨g',0,none⟩) (F.length+1) cap')).cell? ⟨w.heap.size,0,none⟩=some (.int .i64 (m:Int)):=by rw [World.cell?_setCell_far _ _ _ _ (by simp;omega)];exact r0
  have e1:(w7.setCell ⟨b,1,none⟩ (.slice (some ⟨g',0,none⟩) (F.length+1) cap')).cell? ⟨w.heap.size,1,none⟩=some (.int .i64 a):=by rw [World.cell?_setCell_far _ _ _ _ (by simp;omega)];exact r1
  go_simp
  refine hkQ hK ⟨e2,e0,e1⟩ (λhHeld=>?_);clear hK K
  refine wpAnyH_done (by kernel_rfl) ?_ _;clear hHeld;have fr8:Fr [b] w7 (w7.setCell ⟨b,1,none⟩ (.slice (some ⟨g',0,none⟩) (F.length+1) cap')):=Fr.of_grown (zAP _ _ _ _) (λk e=>by cases e;simp);have d1:(w7.setCell ⟨b,1,none⟩ (.slice (some ⟨g',0,none⟩) (F.length+1) cap')).cell? ⟨b,1,none⟩=some (.slice (some ⟨g',0,none⟩) (F.length+1) cap'):=zA7 c1 _;have d2:(w7.setCell ⟨b,1,none⟩ (.slice (some ⟨g',0,none⟩) (F.length+1) cap')).frozen? ⟨b,1,none⟩=false:=by rw [World.frozen?_setCell];exact f1
  have gb:=(zAK own (g:=g') rfl).1;have own8:=zAW fr8 own (λg e=>zGE (by omega) e);have fm8:=fr8.fm fm7 (by have:=hS.lt;simp;omega);replace FB:=FB.trans (fr8.mono (λk hk=>by simp at hk;simp [hk]))
  have HZ1:Hid (∀ u,w.cell? ⟨b,0,none⟩=some u->(w7.setCell ⟨b,1,none⟩ (.slice (some ⟨g',0,none⟩) (F.length+1) cap')).cell? ⟨b,0,none⟩=some u):=λu hu=>by rw [zAZ _ _ _ (by decide)];exact HZ0.out u hu
  have hlt:=hS.lt;clear HZ0 c1 c2 r0 r1 f1 fr7 fr8 fm7 own hg nb nm nr pN pR hS hB hi0 hz0 hz1 hz2 HG;generalize w7.setCell ⟨b,1,none⟩ (.slice (some ⟨g',0,none⟩) (F.length+1) cap')=w8 at *;go_upto_region 6 with fail
  have hd8:=(Below.refl w8.heap.size w8).drew;replace FB:=FB.trans (Fr.of_below _ hd8)
  replace HZ1:Hid (∀ u,w.cell? ⟨b,0,none⟩=some u->w8.drew.cell? ⟨b,0,none⟩=some u):=λu hu=>zAC hd8 (HZ1.out u hu)
  replace d1:=zAC hd8 d1
  replace e2:=zAC hd8 e2
  replace e0:=zAC hd8 e0
  replace e1:=zAC hd8 e1
  have d2:w8.drew.frozen? ⟨b,1,none⟩=false:=d2;replace own8:=zAW (Fr.of_below [] hd8) own8 (by simp)
  replace fm8:=fm8.below hd8
  clear hd8;refine wp_region_held_drew (S:=λW=>W.cell? ⟨b,2,none⟩=some (.map (some mb))/\W.cell? ⟨w.heap.size,0,none⟩=some (.int .i64 (m:Int))/\W.cell? ⟨w.heap.size,1,none⟩=some (.int .i64 a)) (by kernel_rfl) ⟨e2,e0,e1⟩ (λhHeld=>?_);generalize w8.drew=w9 at *;refine tkQ 0 ?_
  refine tkQ 1 ?_
  refine tkQ 2 ?_
  refine tkQ 3 ?_
  refine tkQ 4 ?_
  refine tkQ 5 ?_
  obtain ⟨wu,hu,fmu,hgu⟩:=zPN fm8 HK.out;unfold fr2 at hu;have fru:Fr [mb] w9 wu:=Fr.of_grown hgu (λk e=>by cases e;simp);have nbm:b ∉ [mb]:=by simp;omega
  have nrm:w.heap.size ∉ [mb]:=by have:=zA5 hfs.hd;simp;omega
  refine rdQ 6 (λK hK=>?_);go_simp
  refine hkQ hK (⟨fru.cell e2 nbm,fru.cell e0 nrm,fru.cell e1 nrm⟩) (λhHeld=>?_);clear hK K
  refine wpAnyH_done (by kernel_rfl) ?_ _;clear hHeld;have fin:FS wu b mb (.slice (some ⟨g',0,none⟩) (F.length+1) cap') (F++[(m,a)]):=⟨fru.cell d1 nbm,by rw [fru.frozen (zA5 d1) nbm];exact d2,by rw [List.length_append,zCh];exact zAW fru own8 (λg e=>zGE (by omega) e),fru.cell e2 nbm,fmu,hlt⟩
  have HZ2:∀ u,w.cell? ⟨b,0,none⟩=some u->wu.cell? ⟨b,0,none⟩=some u:=λu hu=>fru.cell (HZ1.out u hu) nbm
  have FC:=FB.trans (fru.mono (λk hk=>by simp at hk;simp [hk]));have HFIN:Hid (FS wu b mb (.slice (some ⟨g',0,none⟩) (F.length+1) cap') (F++[(m,a)])):=fin;clear fin hu fmu hgu fru d1 d2 e0 e1 e2 own8 fm8 FB HZ1;go_wp2;go_ret;exact ⟨by simp,⟨_,HFIN.out⟩,FC,HZ2⟩
def BPost (b mb:Nat) (lv:Value) (w w':World) (F2:List (Nat × Int)):Prop:=(∃ lv',FS w' b mb lv' F2)/\Fr (b::mb::lv.ownBlock.toList) w w'/\(∀ u,w.cell? ⟨b,0,none⟩=some u->w'.cell? ⟨b,0,none⟩=some u)
theorem BPost.of_below (h:FS w b mb lv F) (hb:Below w.heap.size w w'):BPost b mb lv w w' F:=⟨⟨lv,h.below hb⟩,Fr.of_below _ hb,λu hu=>zAC hb hu⟩
theorem BPost.front {w1 w2:World} (hb:Below w.heap.size w w1) (h:BPost b mb lv w1 w2 F):BPost b mb lv w w2 F:=⟨h.1,(Fr.of_below _ hb).trans h.2.1,λu hu=>h.2.2 u (zAC hb hu)⟩
theorem zLG (b mb:Nat) (lv:Value) (F:List (Nat × Int)) (m:Nat) (a:Int) (w:World) (hfs:FS w b mb lv F) (hlF:F.length<=1000000) :
  Calls prog 142 #[.pointer (some ⟨b,1,none⟩),.int .i64 (m:Int),.int .i64 a] w λe w'=>∃ k F2,Wc.behF F 6 a m=some (k,F2)/\e=.returned (.int .i64 (k:Int))/\BPost b mb lv w w' F2:=by
 cases hk:F.findIdx? (· == (m,a)) with
 | some k =>
  refine (zKa b mb lv F m a k w hfs hk).mono ?_;rintro e w' ⟨rfl,hb⟩;exact ⟨k+1,F,by simp [Wc.behF,hk],by simp,BPost.of_below hfs hb⟩
 | none =>
  refine (zJH b mb lv F m a w hfs hlF hk).mono ?_;rintro e w' ⟨rfl,h1,h2,h3⟩;exact ⟨F.length+1,F++[(m,a)],by simp [Wc.behF,hk],by simp,h1,h2,h3⟩
def zDk (F:List (Nat × Int)) (m:Nat):Nat × Int:=if m=0 then (0,0) else F.getD (m - 1) (0,0)
theorem zB9 (b mb:Nat) (lv:Value) (F:List (Nat × Int)) (m:Nat) (w:World) (hfs:FS w b mb lv F) (hm:m<=F.length) (hlF:F.length<=1000000) :
  CR 141 #[.pointer (some ⟨b,1,none⟩),.int .i64 (m:Int)] w (.tuple #[.agg #[.int .i64 ((zDk F m).1:Int),.int .i64 (zDk F m).2],.bool (decide (m ≠ 0))]):=by
 cases m with
 | zero=>exact zJG b 1 w
 | succ i =>
  have h:=zK6 b 1 (F.map λx=>((x.1:Int),x.2)) i w hfs.list (by simp;omega) (by simpa using hlF);have e:zDk F (i+1)=F[i]'(by omega):=by
   unfold zDk;rw [if_neg (by omega),Nat.add_sub_cancel,List.getD_eq_getElem?_getD,List.getElem?_eq_getElem (by omega)];rfl
  rw [e];simp only [List.getElem_map] at h;exact h
theorem zJo (x:Wc.In) (tv:Value) (b mb:Nat) (lv:Value) (F:List (Nat × Int)) (m:Nat) (w:World) (hfs:FS w b mb lv F) (hm:m<=F.length) (hlF:F.length<=1000000) (hk:x.op=6) :
  Calls prog 100 #[.pointer (some ⟨b,1,none⟩),inV x tv,.int .i64 (m:Int)] w λe w'=>∃ k F2,Wc.behF F 6 x.a m=some (k,F2)/\e=.returned (.tuple #[.int .i64 (k:Int),.bool true])/\BPost b mb lv w w' F2:=by
 have pA:=AtL.new0 w 56 (zAD x tv);have hB:=zAM (Below.refl _ w) (.cells (zAD x tv).toArray 56);have TP:=λw1 (hb:Below w.heap.size w w1)=>zB9 b mb lv F m w1 (hfs.below hb) hm hlF
 obtain ⟨tp,htp⟩:∃ t,zDk F m=t:=⟨_,rfl⟩
 rw [htp] at TP;obtain ⟨tn,ti⟩:=tp;simp only at TP;obtain ⟨sm,hsm⟩:∃ s,decide (m ≠ 0)=s:=⟨_,rfl⟩
 rw [hsm] at TP;go_enter func100,ntmps100;go_upto_region 1 with fail
 generalize (w.alloc (.cells (zAD x tv).toArray 56))=W at *;have TP1:=TP W hB;clear TP;go_wp2_with fail
 refine TP1.mono ?_;rintro e w1 ⟨rfl,hb1⟩;replace pA:=AtL.below hb1 pA
 replace hB:=zAB hB hb1
 have hk0:(zAD x tv)[0]? = some (.int .i64 (6)):=by rw [<-hk];rfl
 have a0:=pA.2.1 0 _ hk0;have a1:=pA.2.1 1 _ rfl;have p8:=AtL.new0 w1 193 [.int .i64 (tn:Int),.int .i64 ti];have hB8:=zAM (Below.refl _ w1) (.cells #[.int .i64 (tn:Int),.int .i64 ti] 193);replace hB:=zAB hB hB8
 replace a0:=zAC hB8 a0
 replace a1:=zAC hB8 a1
 have t0:=p8.2.1 0 _ rfl;have t1:=p8.2.1 1 _ rfl;clear hb1 pA TP1 p8 hB8;go_upto_region 2 with fail
 generalize (w1.alloc (.cells #[.int .i64 (tn:Int),.int .i64 ti] 193))=W2 at *;have MA:=zLG b mb lv F m x.a W2 (hfs.below hB) hlF;go_wp2_with fail
 refine MA.mono ?_;rintro e w3 ⟨k,F2,hbe,rfl,hP⟩;go_wp2;go_ret2
 exact ⟨k,F2,hbe,rfl,BPost.front hB hP⟩
theorem zKf (x:Wc.In) (tv:Value) (b mb:Nat) (lv:Value) (F:List (Nat × Int)) (m:Nat) (w:World) (hfs:FS w b mb lv F) (hm:m<=F.length) (hlF:F.length<=1000000) (hk:x.op=7) :
  Calls prog 100 #[.pointer (some ⟨b,1,none⟩),inV x tv,.int .i64 (m:Int)] w λe w'=>(e=.returned (.tuple #[.int .i64 (m:Int),.bool (decide (m ≠ 0))]))/\Below w.heap.size w w':=by
 have pA:=AtL.new0 w 56 (zAD x tv);have hB:=zAM (Below.refl _ w) (.cells (zAD x tv).toArray 56);have TP:=λw1 (hb:Below w.heap.size w w1)=>zB9 b mb lv F m w1 (hfs.below hb) hm hlF
 obtain ⟨tp,htp⟩:∃ t,zDk F m=t:=⟨_,rfl⟩
 rw [htp] at TP;obtain ⟨tn,ti⟩:=tp;simp only at TP;obtain ⟨sm,hsm⟩:∃ s,decide (m ≠ 0)=s:=⟨_,rfl⟩
 rw [hsm] at TP;rw [hsm];go_enter func100,ntmps100;go_upto_region 1 with fail
 generalize (w.alloc (.cells (zAD x tv).toArray 56))=W at *;have TP1:=TP W hB;clear TP;go_wp2_with fail
 refine TP1.mono ?_;rintro e w1 ⟨rfl,hb1⟩;replace pA:=AtL.below hb1 pA
 replace hB:=zAB hB hb1
 have hk0:(zAD x tv)[0]? = some (.int .i64 (7)):=by rw [<-hk];rfl
 have a0:=pA.2.1 0 _ hk0;have a1:=pA.2.1 1 _ rfl;have p8:=AtL.new0 w1 193 [.int .i64 (tn:Int),.int .i64 ti];have hB8:=zAM (Below.refl _ w1) (.cells #[.int .i64 (tn:Int),.int .i64 ti] 193);replace hB:=zAB hB hB8
 replace a0:=zAC hB8 a0
 replace a1:=zAC hB8 a1
 have t0:=p8.2.1 0 _ rfl;have t1:=p8.2.1 1 _ rfl;clear hb1 pA TP1 p8 hB8;go_upto_region 2 with fail
 generalize (w1.alloc (.cells #[.int .i64 (tn:Int),.int .i64 ti] 193))=W2 at *;cases sm
 ·go_wp2;go_ret2
  exact ⟨by simp,(clB hB)⟩
 ·go_wp2;go_ret2
  exact ⟨by simp,(clB hB)⟩
theorem zJl (x:Wc.In) (tv:Value) (b mb:Nat) (lv:Value) (F:List (Nat × Int)) (m:Nat) (w:World) (hfs:FS w b mb lv F) (hm:m<=F.length) (hlF:F.length<=1000000) (hk:x.op=8) :
  Calls prog 100 #[.pointer (some ⟨b,1,none⟩),inV x tv,.int .i64 (m:Int)] w λe w'=>(e=.returned (.tuple #[.int .i64 (m:Int),.bool (decide (m ≠ 0) && !Wc.pairs (zDk F m).2)]))/\Below w.heap.size w w':=by
 have pA:=AtL.new0 w 56 (zAD x tv);have hB:=zAM (Below.refl _ w) (.cells (zAD x tv).toArray 56);have TP:=λw1 (hb:Below w.heap.size w w1)=>zB9 b mb lv F m w1 (hfs.below hb) hm hlF
 obtain ⟨tp,htp⟩:∃ t,zDk F m=t:=⟨_,rfl⟩
 rw [htp] at TP;obtain ⟨tn,ti⟩:=tp;simp only at TP;obtain ⟨sm,hsm⟩:∃ s,decide (m ≠ 0)=s:=⟨_,rfl⟩
 rw [hsm] at TP;have PA:=λw=>zBp ti w
 obtain ⟨pq,hpq⟩:∃ q,Wc.pairs ti=q:=⟨_,rfl⟩
 rw [hpq] at PA;have hres:(decide (m ≠ 0) && !Wc.pairs (zDk F m).2)=(sm && !pq):=by rw [htp,hsm,<-hpq]
 rw [hres];go_enter func100,ntmps100;go_upto_region 1 with fail
 generalize (w.alloc (.cells (zAD x tv).toArray 56))=W at *;have TP1:=TP W hB;clear TP;go_wp2_with fail
 refine TP1.mono ?_;rintro e w1 ⟨rfl,hb1⟩;replace pA:=AtL.below hb1 pA
 replace hB:=zAB hB hb1
 have hk0:(zAD x tv)[0]? = some (.int .i64 (8)):=by rw [<-hk];rfl
 have a0:=pA.2.1 0 _ hk0;have a1:=pA.2.1 1 _ rfl;have p8:=AtL.new0 w1 193 [.int .i64 (tn:Int),.int .i64 ti];have hB8:=zAM (Below.refl _ w1) (.cells #[.int .i64 (tn:Int),.int .i64 ti] 193);replace hB:=zAB hB hB8
 replace a0:=zAC hB8 a0
 replace a1:=zAC hB8 a1
 have t0:=p8.2.1 0 _ rfl;have t1:=p8.2.1 1 _ rfl;clear hb1 pA TP1 p8 hB8;go_upto_region 2 with fail
 generalize (w1.alloc (.cells #[.int .i64 (tn:Int),.int .i64 ti] 193))=W2 at *;cases sm
 ·clear PA;go_wp2;go_ret2
  exact ⟨by simp,(clB hB)⟩
 ·go_wp2_with fail
  refine (PA _).mono ?_;rintro e w3 ⟨rfl,rfl⟩;cases pq
  ·go_wp2;go_ret2
   exact ⟨by simp,(clB hB)⟩
  ·go_wp2;go_ret2
   exact ⟨by simp,(clB hB)⟩
theorem zKy (x:Wc.In) (tv:Value) (b mb:Nat) (lv:Value) (F:List (Nat × Int)) (m:Nat) (w:World) (hfs:FS w b mb lv F) (hm:m<=F.length) (hlF:F.length<=1000000) (hk:x.op=9) :
  Calls prog 100 #[.pointer (some ⟨b,1,none⟩),inV x tv,.int .i64 (m:Int)] w λe w'=>(e=.returned (.tuple #[.int .i64 (m:Int),.bool (decide (m ≠ 0) && Wc.pairs (zDk F m).2)]))/\Below w.heap.size w w':=by
 have pA:=AtL.new0 w 56 (zAD x tv);have hB:=zAM (Below.refl _ w) (.cells (zAD x tv).toArray 56);have TP:=λw1 (hb:Below w.heap.size w w1)=>zB9 b mb lv F m w1 (hfs.below hb) hm hlF
 obtain ⟨tp,htp⟩:∃ t,zDk F m=t:=⟨_,rfl⟩
 rw [htp] at TP;obtain ⟨tn,ti⟩:=tp;simp only at TP;obtain ⟨sm,hsm⟩:∃ s,decide (m ≠ 0)=s:=⟨_,rfl⟩
 rw [hsm] at TP;have PA:=λw=>zBp ti w
 obtain ⟨pq,hpq⟩:∃ q,Wc.pairs ti=q:=⟨_,rfl⟩
 rw [hpq] at PA;have hres:(decide (m ≠ 0) && Wc.pairs (zDk F m).2)=(sm && pq):=by rw [htp,hsm,<-hpq]
 rw [hres];go_enter func100,ntmps100;go_upto_region 1 with fail
 generalize (w.alloc (.cells (zAD x tv).toArray 56))=W at *;have TP1:=TP W hB;clear TP;go_wp2_with fail
 refine TP1.mono ?_;rintro e w1 ⟨rfl,hb1⟩;replace pA:=AtL.below hb1 pA
 replace hB:=zAB hB hb1
 have hk0:(zAD x tv)[0]? = some (.int .i64 (9)):=by rw [<-hk];rfl
 have a0:=pA.2.1 0 _ hk0;have a1:=pA.2.1 1 _ rfl;have p8:=AtL.new0 w1 193 [.int .i64 (tn:Int),.int .i64 ti];have hB8:=zAM (Below.refl _ w1) (.cells #[.int .i64 (tn:Int),.int .i64 ti] 193);replace hB:=zAB hB hB8
 replace a0:=zAC hB8 a0
 replace a1:=zAC hB8 a1
 have t0:=p8.2.1 0 _ rfl;have t1:=p8.2.1 1 _ rfl;clear hb1 pA TP1 p8 hB8;go_upto_region 2 with fail
 generalize (w1.alloc (.cells #[.int .i64 (tn:Int),.int .i64 ti] 193))=W2 at *;cases sm
 ·clear PA;go_wp2;go_ret2
  exact ⟨by simp,(clB hB)⟩
 ·go_wp2_with fail
  refine (PA _).mono ?_;rintro e w3 ⟨rfl,rfl⟩;cases pq
  ·go_wp2;go_ret2
   exact ⟨by simp,(clB hB)⟩
  ·go_wp2;go_ret2
   exact ⟨by simp,(clB hB)⟩
theorem zJD (x:Wc.In) (tv:Value) (b mb:Nat) (lv:Value) (F:List (Nat × Int)) (m:Nat) (w:World) (hfs:FS w b mb lv F) (hm:m<=F.length) (hlF:F.length<=1000000) (hk:x.op=10) :
  Calls prog 100 #[.pointer (some ⟨b,1,none⟩),inV x tv,.int .i64 (m:Int)] w λe w'=>(e=.returned (.tuple #[.int .i64 (((zDk F m).1:Int)),.bool (decide (m ≠ 0))]))/\Below w.heap.size w w':=by
 have pA:=AtL.new0 w 56 (zAD x tv);have hB:=zAM (Below.refl _ w) (.cells (zAD x tv).toArray 56);have TP:=λw1 (hb:Below w.heap.size w w1)=>zB9 b mb lv F m w1 (hfs.below hb) hm hlF
 obtain ⟨tp,htp⟩:∃ t,zDk F m=t:=⟨_,rfl⟩
 rw [htp] at TP;obtain ⟨tn,ti⟩:=tp;simp only at TP;obtain ⟨sm,hsm⟩:∃ s,decide (m ≠ 0)=s:=⟨_,rfl⟩
 rw [hsm] at TP;rw [hsm,htp];go_enter func100,ntmps100;go_upto_region 1 with fail
 generalize (w.alloc (.cells (zAD x tv).toArray 56))=W at *;have TP1:=TP W hB;clear TP;go_wp2_with fail
 refine TP1.mono ?_;rintro e w1 ⟨rfl,hb1⟩;replace pA:=AtL.below hb1 pA
 replace hB:=zAB hB hb1
 have hk0:(zAD x tv)[0]? = some (.int .i64 (10)):=by rw [<-hk];rfl
 have a0:=pA.2.1 0 _ hk0;have a1:=pA.2.1 1 _ rfl;have p8:=AtL.new0 w1 193 [.int .i64 (tn:Int),.int .i64 ti];have hB8:=zAM (Below.refl _ w1) (.cells #[.int .i64 (tn:Int),.int .i64 ti] 193);replace hB:=zAB hB hB8
 replace a0:=zAC hB8 a0
 replace a1:=zAC hB8 a1
 have t0:=p8.2.1 0 _ rfl;have t1:=p8.2.1 1 _ rfl;clear hb1 pA TP1 p8 hB8;go_upto_region 2 with fail
 generalize (w1.alloc (.cells #[.int .i64 (tn:Int),.int .i64 ti] 193))=W2 at *;cases sm
 ·go_wp2;go_ret2
  exact ⟨by simp,(clB hB)⟩
 ·go_wp2;go_ret2
  exact ⟨by simp,(clB hB)⟩
theorem zHh (x:Wc.In) (tv:Value) (b mb:Nat) (lv:Value) (F:List (Nat × Int)) (m:Nat) (w:World) (hfs:FS w b mb lv F) (hm:m<=F.length) (hlF:F.length<=1000000) (hk:x.op=16) :
  Calls prog 100 #[.pointer (some ⟨b,1,none⟩),inV x tv,.int .i64 (m:Int)] w λe w'=>(e=.returned (.tuple #[.int .i64 (m:Int),.bool (decide (m=0))]))/\Below w.heap.size w w':=by
 have pA:=AtL.new0 w 56 (zAD x tv);have hB:=zAM (Below.refl _ w) (.cells (zAD x tv).toArray 56);have TP:=λw1 (hb:Below w.heap.size w w1)=>zB9 b mb lv F m w1 (hfs.below hb) hm hlF
 obtain ⟨tp,htp⟩:∃ t,zDk F m=t:=⟨_,rfl⟩
 rw [htp] at TP;obtain ⟨tn,ti⟩:=tp;simp only at TP;obtain ⟨sm,hsm⟩:∃ s,decide (m ≠ 0)=s:=⟨_,rfl⟩
 rw [hsm] at TP;have h16:decide (m=0) = !sm:=by rw [<-hsm];simp
 rw [h16];go_enter func100,ntmps100;go_upto_region 1 with fail
 generalize (w.alloc (.cells (zAD x tv).toArray 56))=W at *;have TP1:=TP W hB;clear TP;go_wp2_with fail
 refine TP1.mono ?_;rintro e w1 ⟨rfl,hb1⟩;replace pA:=AtL.below hb1 pA
 replace hB:=zAB hB hb1
 have hk0:(zAD x tv)[0]? = some (.int .i64 (16)):=by rw [<-hk];rfl
 have a0:=pA.2.1 0 _ hk0;have a1:=pA.2.1 1 _ rfl;have p8:=AtL.new0 w1 193 [.int .i64 (tn:Int),.int .i64 ti];have hB8:=zAM (Below.refl _ w1) (.cells #[.int .i64 (tn:Int),.int .i64 ti] 193);replace hB:=zAB hB hB8
 replace a0:=zAC hB8 a0
 replace a1:=zAC hB8 a1
 have t0:=p8.2.1 0 _ rfl;have t1:=p8.2.1 1 _ rfl;clear hb1 pA TP1 p8 hB8;go_upto_region 2 with fail
 generalize (w1.alloc (.cells #[.int .i64 (tn:Int),.int .i64 ti] 193))=W2 at *;cases sm
 ·go_wp2;go_ret2
  exact ⟨by simp,(clB hB)⟩
 ·go_wp2;go_ret2
  exact ⟨by simp,(clB hB)⟩
theorem zKg (x:Wc.In) (tv:Value) (b mb:Nat) (lv:Value) (F:List (Nat × Int)) (m:Nat) (w:World) (hfs:FS w b mb lv F) (hm:m<=F.length) (hlF:F.length<=1000000) (ho:x.op ≠ 6/\x.op ≠ 7/\x.op ≠ 8/\x.op ≠ 9/\x.op ≠ 10/\x.op ≠ 16) :
  Calls prog 100 #[.pointer (some ⟨b,1,none⟩),inV x tv,.int .i64 (m:Int)] w λe w'=>(e=.returned (.tuple #[.int .i64 (m:Int),.bool true]))/\Below w.heap.size w w':=by
 have pA:=AtL.new0 w 56 (zAD x tv);have hB:=zAM (Below.refl _ w) (.cells (zAD x tv).toArray 56);have TP:=λw1 (hb:Below w.heap.size w w1)=>zB9 b mb lv F m w1 (hfs.below hb) hm hlF
 obtain ⟨tp,htp⟩:∃ t,zDk F m=t:=⟨_,rfl⟩
 rw [htp] at TP;obtain ⟨tn,ti⟩:=tp;simp only at TP;obtain ⟨sm,hsm⟩:∃ s,decide (m ≠ 0)=s:=⟨_,rfl⟩
 rw [hsm] at TP;have m6:¬ x.op=6:=by omega
 have m7:¬ x.op=7:=by omega
 have m8:¬ x.op=8:=by omega
 have m9:¬ x.op=9:=by omega
 have m10:¬ x.op=10:=by omega
 have m16:¬ x.op=16:=by omega
 go_enter func100,ntmps100;go_upto_region 1 with fail
 generalize (w.alloc (.cells (zAD x tv).toArray 56))=W at *;have TP1:=TP W hB;clear TP;go_wp2_with fail
 refine TP1.mono ?_;rintro e w1 ⟨rfl,hb1⟩;replace pA:=AtL.below hb1 pA
 replace hB:=zAB hB hb1
 have hk0:(zAD x tv)[0]? = some (.int .i64 x.op):=rfl;have a0:=pA.2.1 0 _ hk0;have a1:=pA.2.1 1 _ rfl;have p8:=AtL.new0 w1 193 [.int .i64 (tn:Int),.int .i64 ti];have hB8:=zAM (Below.refl _ w1) (.cells #[.int .i64 (tn:Int),.int .i64 ti] 193);replace hB:=zAB hB hB8
 replace a0:=zAC hB8 a0
 replace a1:=zAC hB8 a1
 have t0:=p8.2.1 0 _ rfl;have t1:=p8.2.1 1 _ rfl;clear hb1 pA TP1 p8 hB8;go_upto_region 2 with fail
 generalize (w1.alloc (.cells #[.int .i64 (tn:Int),.int .i64 ti] 193))=W2 at *;go_wp2;go_ret2
 exact ⟨by simp,(clB hB)⟩
theorem zFt (c:UInt8) (w:World):Calls prog 152 #[.int .u8 c.toNat] w λe w'=>e=.returned (.bool (Wlx.cap c))/\w=w':=by
 unfold Wlx.cap;go_enter func152,ntmps152;by_cases a:65<=(c.toNat:Int)
 ·go_wp2;go_ret;exact ⟨zA8 (by simp [a]),rfl⟩
 ·go_wp2;go_ret;exact ⟨zA8 (by rw [decide_eq_false (by omega)];rfl),rfl⟩
theorem zGL (c:UInt8) (w:World):Calls prog 169 #[.int .u8 c.toNat] w λe w'=>e=.returned (.bool (Wlx.dig c))/\w=w':=by
 unfold Wlx.dig;go_enter func169,ntmps169;by_cases a:48<=(c.toNat:Int)
 ·go_wp2;go_ret;exact ⟨zA8 (by simp [a]),rfl⟩
 ·go_wp2;go_ret;exact ⟨zA8 (by rw [decide_eq_false (by omega)];rfl),rfl⟩
theorem zJf (c:UInt8) (w:World):Calls prog 168 #[.int .u8 c.toNat] w λe w'=>e=.returned (.bool (Wt.ltr c))/\w=w':=by
 unfold Wt.ltr;have C:=zFt c w;unfold Wlx.low;generalize Wlx.cap c=q at *;go_enter func168,ntmps168;cases q
 ·by_cases a:97<=(c.toNat:Int)
  ·go_wp2_with fail
   refine C.mono ?_;rintro e w1 ⟨rfl,rfl⟩;go_wp2;go_ret;exact ⟨zA8 (by simp [a]),rfl⟩
  ·go_wp2_with fail
   refine C.mono ?_;rintro e w1 ⟨rfl,rfl⟩;go_wp2;go_ret;exact ⟨zA8 (by rw [decide_eq_false (p:=97<=(c.toNat:Int)) (by omega)];rfl),rfl⟩
 ·go_wp2_with fail
  refine C.mono ?_;rintro e w1 ⟨rfl,rfl⟩;go_wp2;go_ret;exact ⟨zA8 (by simp),rfl⟩
theorem zI8 (b:ByteArray) (h:0<b.size):b.data.toList.headD 0=b[0]:=by
 have:=zCt b 0 h;rw [List.drop_zero] at this;rw [this];rfl
theorem zDx (p:UInt8->Bool) (b:ByteArray) (j:Nat) (h:j<b.size):(b.data.toList.drop j).all p=(p (b[j]) && (b.data.toList.drop (j+1)).all p):=by
 rw [zCt b j h];rfl
theorem zJN (b:ByteArray) (w:World) (hs:b.size<=9223372036854775807) :
  Calls prog 151 #[.string b,.func (.func 152) #[] #[]] w λe w'=>e=.returned (.bool (Wt.isNm Wlx.cap b.data.toList))/\w=w':=by
 have C:∀ (c:UInt8) (w:World),Calls prog 152 #[.int .u8 c.toNat] w λe w'=>e=.returned (.bool (Wlx.cap c))/\w=w':=zFt
 have hl:b.data.toList.length=b.size:=rfl;by_cases h0:b=⟨#[]⟩
 ·subst h0;go_enter func151,ntmps151;go_wp2;go_ret;exact ⟨rfl,rfl⟩
 have h1:0<b.size:=by
  rcases Nat.eq_zero_or_pos b.size with h | h
  ·exact absurd (ByteArray.size_eq_zero_iff.1 h) h0
  ·exact h
 have hb0:b.toList.isEmpty=false:=by
  rw [ByteArray.toList_eq];cases hh:b.data.toList with
  | nil=>rw [hh] at hl;exact absurd hl (by show ¬ 0=_;omega)
  | cons _ _=>rfl
 by_cases h16:16<b.size
 ·have h16i:(16:Int)<(b.size:Int):=by omega
  have E:Hid (Wt.isNm Wlx.cap b.data.toList=false):=by
   show _=_
   unfold Wt.isNm;rw [hl,decide_eq_false (p:=b.size<=16) (by omega)];simp
  rw [E.out];clear E;go_enter func151,ntmps151;go_wp2;go_ret;exact ⟨rfl,rfl⟩
 have h16i:¬ (16:Int)<(b.size:Int):=by omega
 have E0:Wt.isNm Wlx.cap b.data.toList=(Wlx.cap (b[0]) && b.data.toList.all (λc=>Wlx.cap c || Wlx.dig c)):=by
  unfold Wt.isNm;rw [hl,decide_eq_true (by omega),decide_eq_true (by omega),zI8 b h1];simp
 rw [E0];clear E0;have C0:=C (b[0]) w;cases hp:Wlx.cap (b[0]) with
 | false =>
  rw [hp] at C0;go_enter func151,ntmps151;go_wp2_with fail
  refine C0.mono ?_;rintro e w1 ⟨rfl,rfl⟩;go_wp2;go_ret;exact ⟨rfl,rfl⟩
 | true =>
  rw [hp] at C0;clear hp;obtain ⟨R,hR⟩:∃ R,b.data.toList.all (λc=>Wlx.cap c || Wlx.dig c)=R:=⟨_,rfl⟩
  have E0:Hid (R=(b.data.toList.drop 0).all (λc=>Wlx.cap c || Wlx.dig c)):=hR.symm;rw [hR];clear hR;go_enter func151,ntmps151;go_wp2_with fail
  refine C0.mono ?_;rintro e w1 ⟨rfl,rfl⟩;go_wp2_with fail
  go_loopg [22] (b.size) (λgk x wr=>∃ j:Nat,x=.int .i64 j/\gk=b.size - j/\j<=b.size/\Hid (R=(b.data.toList.drop j).all (λc=>Wlx.cap c || Wlx.dig c))/\wr=w)
  case atStart=>exact ⟨0,rfl,rfl,Nat.zero_le _,E0,rfl⟩
  case round =>
   obtain ⟨j,rfl,hg,hj,HR,rfl⟩:=hrel;by_cases hlt:j<b.size
   ·have hli:(j:Int)<(b.size:Int):=by omega
    have hd:=zDx (λc=>Wlx.cap c || Wlx.dig c) b j hlt;have C1:=C (b[j]) wr;have C2:=zGL (b[j]) wr;cases h1:Wlx.cap (b[j]) with
    | true =>
     have E:Hid (R=(b.data.toList.drop (j+1)).all (λc=>Wlx.cap c || Wlx.dig c)):=by show _=_;rw [HR.out,hd,h1];rfl
     rw [h1] at C1;clear HR hd h1 C2 C0;go_wp2_with fail
     refine C1.mono ?_;rintro e w1 ⟨rfl,rfl⟩;go_wp2_with fail
     go_roundg (b.size - (j+1))
     case rel=>exact ⟨j+1,by simp,rfl,hlt,E,by first | trivial | rfl⟩
     case measure=>omega
    | false =>
     cases h2:Wlx.dig (b[j]) with
     | true =>
      have E:Hid (R=(b.data.toList.drop (j+1)).all (λc=>Wlx.cap c || Wlx.dig c)):=by show _=_;rw [HR.out,hd,h1,h2];rfl
      rw [h1] at C1;rw [h2] at C2;clear HR hd h1 h2 C0;go_wp2_with fail
      refine C1.mono ?_;rintro e w1 ⟨rfl,rfl⟩;go_wp2_with fail
      refine C2.mono ?_;rintro e w1 ⟨rfl,rfl⟩;go_wp2_with fail
      go_roundg (b.size - (j+1))
      case rel=>exact ⟨j+1,by simp,rfl,hlt,E,by first | trivial | rfl⟩
      case measure=>omega
     | false =>
      have E:Hid (R=false):=by show _=_;rw [HR.out,hd,h1,h2];rfl
      rw [h1] at C1;rw [h2] at C2;clear HR hd h1 h2 C0;go_wp2_with fail
      refine C1.mono ?_;rintro e w1 ⟨rfl,rfl⟩;go_wp2_with fail
      refine C2.mono ?_;rintro e w1 ⟨rfl,rfl⟩;go_wp2;go_ret;exact ⟨by rw [E.out];rfl,rfl⟩
   ·have hli:¬ (j:Int)<(b.size:Int):=by omega
    have E:Hid (R=true):=by show _=_;rw [HR.out,zCO b j hlt];rfl
    clear HR C0;go_wp2;go_ret;exact ⟨by rw [E.out];rfl,rfl⟩
theorem zIo (b:ByteArray) (w:World) (hs:b.size<=9223372036854775807) :
  Calls prog 151 #[.string b,.func (.func 168) #[] #[]] w λe w'=>e=.returned (.bool (Wt.isNm Wt.ltr b.data.toList))/\w=w':=by
 have C:∀ (c:UInt8) (w:World),Calls prog 168 #[.int .u8 c.toNat] w λe w'=>e=.returned (.bool (Wt.ltr c))/\w=w':=zJf
 have hl:b.data.toList.length=b.size:=rfl;by_cases h0:b=⟨#[]⟩
 ·subst h0;go_enter func151,ntmps151;go_wp2;go_ret;exact ⟨rfl,rfl⟩
 have h1:0<b.size:=by
  rcases Nat.eq_zero_or_pos b.size with h | h
  ·exact absurd (ByteArray.size_eq_zero_iff.1 h) h0
  ·exact h
 have hb0:b.toList.isEmpty=false:=by
  rw [ByteArray.toList_eq];cases hh:b.data.toList with
  | nil=>rw [hh] at hl;exact absurd hl (by show ¬ 0=_;omega)
  | cons _ _=>rfl
 by_cases h16:16<b.size
 ·have h16i:(16:Int)<(b.size:Int):=by omega
  have E:Hid (Wt.isNm Wt.ltr b.data.toList=false):=by
   show _=_
   unfold Wt.isNm;rw [hl,decide_eq_false (p:=b.size<=16) (by omega)];simp
  rw [E.out];clear E;go_enter func151,ntmps151;go_wp2;go_ret;exact ⟨rfl,rfl⟩
 have h16i:¬ (16:Int)<(b.size:Int):=by omega
 have E0:Wt.isNm Wt.ltr b.data.toList=(Wt.ltr (b[0]) && b.data.toList.all (λc=>Wt.ltr c || Wlx.dig c)):=by
  unfold Wt.isNm;rw [hl,decide_eq_true (by omega),decide_eq_true (by omega),zI8 b h1];simp
 rw [E0];clear E0;have C0:=C (b[0]) w;cases hp:Wt.ltr (b[0]) with
 | false =>
  rw [hp] at C0;go_enter func151,ntmps151;go_wp2_with fail
  refine C0.mono ?_;rintro e w1 ⟨rfl,rfl⟩;go_wp2;go_ret;exact ⟨rfl,rfl⟩
 | true =>
  rw [hp] at C0;clear hp;obtain ⟨R,hR⟩:∃ R,b.data.toList.all (λc=>Wt.ltr c || Wlx.dig c)=R:=⟨_,rfl⟩
  have E0:Hid (R=(b.data.toList.drop 0).all (λc=>Wt.ltr c || Wlx.dig c)):=hR.symm;rw [hR];clear hR;go_enter func151,ntmps151;go_wp2_with fail
  refine C0.mono ?_;rintro e w1 ⟨rfl,rfl⟩;go_wp2_with fail
  go_loopg [22] (b.size) (λgk x wr=>∃ j:Nat,x=.int .i64 j/\gk=b.size - j/\j<=b.size/\Hid (R=(b.data.toList.drop j).all (λc=>Wt.ltr c || Wlx.dig c))/\wr=w)
  case atStart=>exact ⟨0,rfl,rfl,Nat.zero_le _,E0,rfl⟩
  case round =>
   obtain ⟨j,rfl,hg,hj,HR,rfl⟩:=hrel;by_cases hlt:j<b.size
   ·have hli:(j:Int)<(b.size:Int):=by omega
    have hd:=zDx (λc=>Wt.ltr c || Wlx.dig c) b j hlt;have C1:=C (b[j]) wr;have C2:=zGL (b[j]) wr;cases h1:Wt.ltr (b[j]) with
    | true =>
     have E:Hid (R=(b.data.toList.drop (j+1)).all (λc=>Wt.ltr c || Wlx.dig c)):=by show _=_;rw [HR.out,hd,h1];rfl
     rw [h1] at C1;clear HR hd h1 C2 C0;go_wp2_with fail
     refine C1.mono ?_;rintro e w1 ⟨rfl,rfl⟩;go_wp2_with fail
     go_roundg (b.size - (j+1))
     case rel=>exact ⟨j+1,by simp,rfl,hlt,E,by first | trivial | rfl⟩
     case measure=>omega
    | false =>
     cases h2:Wlx.dig (b[j]) with
     | true =>
      have E:Hid (R=(b.data.toList.drop (j+1)).all (λc=>Wt.ltr c || Wlx.dig c)):=by show _=_;rw [HR.out,hd,h1,h2];rfl
      rw [h1] at C1;rw [h2] at C2;clear HR hd h1 h2 C0;go_wp2_with fail
      refine C1.mono ?_;rintro e w1 ⟨rfl,rfl⟩;go_wp2_with fail
      refine C2.mono ?_;rintro e w1 ⟨rfl,rfl⟩;go_wp2_with fail
      go_roundg (b.size - (j+1))
      case rel=>exact ⟨j+1,by simp,rfl,hlt,E,by first | trivial | rfl⟩
      case measure=>omega
     | false =>
      have E:Hid (R=false):=by show _=_;rw [HR.out,hd,h1,h2];rfl
      rw [h1] at C1;rw [h2] at C2;clear HR hd h1 h2 C0;go_wp2_with fail
      refine C1.mono ?_;rintro e w1 ⟨rfl,rfl⟩;go_wp2_with fail
      refine C2.mono ?_;rintro e w1 ⟨rfl,rfl⟩;go_wp2;go_ret;exact ⟨by rw [E.out];rfl,rfl⟩
   ·have hli:¬ (j:Int)<(b.size:Int):=by omega
    have E:Hid (R=true):=by show _=_;rw [HR.out,zCO b j hlt];rfl
    clear HR C0;go_wp2;go_ret;exact ⟨by rw [E.out];rfl,rfl⟩
theorem zNL (b:ByteArray) (w:World) (hs:b.size<=9223372036854775807):Calls prog 113 #[.string b] w λe w'=>e=.returned (.bool (Wt.fnNm b))/\w=w':=by
 have C:=zJN b w hs;unfold Wt.fnNm;generalize Wt.isNm Wlx.cap b.data.toList=R at *;go_enter func113,ntmps113;go_wp2_with fail
 refine C.mono ?_;rintro e w1 ⟨rfl,rfl⟩;go_wp2;go_ret;exact ⟨rfl,rfl⟩
theorem zLs (b:ByteArray) (w:World) (hs:b.size<=9223372036854775807):Calls prog 150 #[.string b] w λe w'=>e=.returned (.bool (Wt.shNm b))/\w=w':=by
 have C:=zIo b w hs;unfold Wt.shNm;generalize Wt.isNm Wt.ltr b.data.toList=R at *;go_enter func150,ntmps150;go_wp2_with fail
 refine C.mono ?_;rintro e w1 ⟨rfl,rfl⟩;go_wp2;go_ret;exact ⟨rfl,rfl⟩
