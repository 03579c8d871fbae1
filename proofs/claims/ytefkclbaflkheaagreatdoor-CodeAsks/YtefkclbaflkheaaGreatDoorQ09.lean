/- KHtC. -/
import Derived.Test.YtefkclbaflkheaaGreatDoorQ08
set_option maxHeartbeats 1600000
set_option maxRecDepth 100000
namespace Go.Proofs.YtefkclbaflkheaaGreatDoor
open Tryz
variable {w w':World} {mb b:Nat} {F:List (Nat × Int)} {lv:Value}
open Go.RowKit
open Go.ChangeMaps (setBlock heap_setBlock_same heap_setBlock_other)
set_option linter.unusedVariables false
theorem zAM (w:World) (b:Nat) (v:Value) {i j:Nat} (h:i ≠ j):(w.setCell ⟨b,i,none⟩ v).cell? ⟨b,j,none⟩=w.cell? ⟨b,j,none⟩:=by
 simp [World.cell?,World.setCell,Array.getElem?_modify];cases w.heap[b]? with
 | none=>rfl
 | some o=>cases o <;> simp [h]
theorem zAQ {i:Nat} {u:Value} (h:w.cell? ⟨b,i,none⟩=some u) (v:Value):(w.setCell ⟨b,i,none⟩ v).cell? ⟨b,i,none⟩=some v:=by
 unfold World.cell? at h;simp only [Option.isSome_none] at h;cases hq:w.heap[b]? with
 | none=>rw [hq] at h;cases h
 | some o =>
  rw [hq] at h;cases o with
  | cells c t f =>
   have h2:c[i]? = some u:=by simpa using h
   have h3:=(Array.getElem?_eq_some_iff.1 h2).1;simp [World.cell?,World.setCell,Array.getElem?_modify,hq,h3]
  | _=>simp at h
theorem zEI {g' n c x g:Nat} (hx:x<g') (e:(Value.slice (some ⟨g',0,none⟩) n c).ownBlock=some g):g ∉ [x]:=by
 have e2:g'=g:=by simpa [Value.ownBlock] using e
 subst e2;simp;omega
theorem zAL (w:World) (b i:Nat) (v:Value):w.grownBy (w.setCell ⟨b,i,none⟩ v) (some b) :=
 ⟨rfl,rfl,rfl,by simp [World.setCell],λk _ hk=>by simp [World.setCell,Array.getElem?_modify];intro e;exact absurd (by rw [e]) hk⟩
theorem FS.fr {S:List Nat} (h:FS w b mb lv F) (hf:Fr S w w') (hb:b ∉ S) (hm:mb ∉ S) (hl:∀ g,lv.ownBlock=some g->g ∉ S):FS w' b mb lv F :=
 ⟨hf.cell h.hd hb,by rw [hf.frozen (zAV h.hd) hb];exact h.hf,zAc hf h.own hl,hf.cell h.mp hb,hf.fm h.fm hm,h.lt⟩
theorem FS.below (h:FS w b mb lv F) (hb:Below w.heap.size w w'):FS w' b mb lv F :=
 h.fr (Fr.of_below [] hb) (by simp) (by simp) (by simp)
theorem zMP:prog.underlying 123=some (.map 193 3):=by kernel_rfl
theorem zGK (h:FM w mb F) {x:Nat × Int} {k:Nat} (hk:F.findIdx? (· == x)=some k):(Instr.lookup 123 (.map (some mb)) (fr2 x) true).run prog w=.ok (.tuple #[.int .i64 ((k:Int)+1),.bool true]) w:=by
 obtain ⟨es,h1,h2⟩:=h;refine zAX (j:=k) zMP h1 (zMZ _ _ _ _) ?_;rw [h2,zMa,hk];rfl
theorem zEn (h:FM w mb F) {x:Nat × Int} (hk:F.findIdx? (· == x)=none):(Instr.lookup 123 (.map (some mb)) (fr2 x) true).run prog w=.ok (.tuple #[.int .i64 0,.bool false]) w:=by
 obtain ⟨es,h1,h2⟩:=h;refine zCC zMP h1 (zMZ _ _ _ _) ?_ (by kernel_rfl);rw [h2,zMa,hk];rfl
theorem zMg (h:FM w mb F) {x:Nat × Int} (hk:F.findIdx? (· == x)=none):∃ w',(Instr.mapUpdate 123 (.map (some mb)) (fr2 x) (.int .i64 ((F.length:Int)+1))).run prog w=.ok () w'/\FM w' mb (F++[x])/\w.grownBy w' (some mb):=by
 obtain ⟨es,h1,h2⟩:=h;refine ⟨_,zDq zMP h1 _ (zMZ _ _ _ _) (by rw [h2,zMa,hk];rfl),⟨es.push ⟨fr2 x,.int .i64 ((F.length:Int)+1),F.length⟩,?_,?_⟩,zBQ h1 _⟩
 ·rw [heap_setBlock_same h1,List.length_append];rfl
 ·rw [Array.toList_push,h2,zEO];simp
theorem zIO (b mb:Nat) (lv:Value) (F:List (Nat × Int)) (m:Nat) (a:Int) (k:Nat) (w:World) (hfs:FS w b mb lv F) (hk:F.findIdx? (· == (m,a))=some k) :
  CR 142 #[.pointer (some ⟨b,1,none⟩),.int .i64 (m:Int),.int .i64 a] w (.int .i64 ((k:Int)+1)):=by
 have hB:=zAK (Below.refl _ w) (.cells #[.int .i64 (m:Int),.int .i64 a] 193);have pR:=AtL.new0 w 193 [.int .i64 (m:Int),.int .i64 a];have hS:=FS.below hfs hB;go_enter func142,ntmps142;go_upto_region 2 with fail
 generalize (w.alloc (.cells #[.int .i64 (m:Int),.int .i64 a] 193))=W at *;replace hB:=hB.drew
 replace pR:=AtL.drew pR
 replace hS:=FS.below hS (Below.refl _ W).drew
 have r0:=pR.2.1 0 _ rfl;have r1:=pR.2.1 1 _ rfl;have c1:=hS.hd;have c2:=hS.mp;have hlk:=zGK hS.fm hk;unfold fr2 at hlk;clear hfs hk pR;refine wp_region_held_drew (S:=λW=>W.cell? ⟨b,1,none⟩=some lv/\W.cell? ⟨b,2,none⟩=some (.map (some mb))/\W.cell? ⟨w.heap.size,0,none⟩=some (.int .i64 (m:Int))/\W.cell? ⟨w.heap.size,1,none⟩=some (.int .i64 a)) (by kernel_rfl) ⟨c1,c2,r0,r1⟩ (λhHeld=>?_);generalize W.drew=wd at *;refine tkQ 0 ?_
 refine tkQ 1 ?_
 refine tkQ 2 ?_
 refine tkQ 3 ?_
 refine tkQ 4 ?_
 refine rdQ 5 (λK hK=>?_);go_simp
 refine hkQ hK (⟨c1,c2,r0,r1⟩) (λhHeld=>?_);clear hK K
 refine tkQ 6 ?_
 refine tkQ 7 ?_
 refine tkQ 8 ?_
 refine rdQ 9 (λK hK=>?_);go_simp
 refine hkQ hK (⟨c1,c2,r0,r1⟩) (λhHeld=>?_);clear hK K
 refine rdQ 10 (λK hK=>?_);go_simp
 refine hkQ hK (⟨c1,c2,r0,r1⟩) (λhHeld=>?_);clear hK K
 refine wpAnyH_done (by kernel_rfl) ?_ _;clear hHeld hlk;go_wp2;go_ret;exact ⟨rfl,hB⟩
theorem zEK:(prog.info? 193).map (λi=>(i.zero,i.size,i.bytes))=some (some (.agg #[.int .i64 0,.int .i64 0]),2,16):=by kernel_rfl
theorem zGB (b mb:Nat) (lv:Value) (F:List (Nat × Int)) (m:Nat) (a:Int) (w:World) (hfs:FS w b mb lv F) (hlF:F.length<=1000000) (hk:F.findIdx? (· == (m,a))=none) :
  Calls prog 142 #[.pointer (some ⟨b,1,none⟩),.int .i64 (m:Int),.int .i64 a] w λe w'=>e=.returned (.int .i64 ((F.length:Int)+1))/\(∃ lv',FS w' b mb lv' (F++[(m,a)]))/\Fr (b::mb::lv.ownBlock.toList) w w'/\(∀ u,w.cell? ⟨b,0,none⟩=some u->w'.cell? ⟨b,0,none⟩=some u):=by
 have HG:Hid (∀ g,lv.ownBlock=some g->b+1<=g/\g<w.heap.size):=λg e=>zAT hfs.own e
 have hB:=zAK (Below.refl _ w) (.cells #[.int .i64 (m:Int),.int .i64 a] 193);have pR:=AtL.new0 w 193 [.int .i64 (m:Int),.int .i64 a];have hS:=FS.below hfs hB;go_enter func142,ntmps142;go_upto_region 2 with fail
 generalize (w.alloc (.cells #[.int .i64 (m:Int),.int .i64 a] 193))=W at *;replace hB:=hB.drew
 replace pR:=AtL.drew pR
 replace hS:=FS.below hS (Below.refl _ W).drew
 have r0:=pR.2.1 0 _ rfl;have r1:=pR.2.1 1 _ rfl;have c1:=hS.hd;have c2:=hS.mp;have hlk:=zEn hS.fm hk;unfold fr2 at hlk;have HK:Hid (F.findIdx? (· == (m,a))=none):=hk;clear hk;refine wp_region_held_drew (S:=λW=>W.cell? ⟨b,1,none⟩=some lv/\W.cell? ⟨b,2,none⟩=some (.map (some mb))/\W.cell? ⟨w.heap.size,0,none⟩=some (.int .i64 (m:Int))/\W.cell? ⟨w.heap.size,1,none⟩=some (.int .i64 a)) (by kernel_rfl) ⟨c1,c2,r0,r1⟩ (λhHeld=>?_);generalize W.drew=wd at *;refine tkQ 0 ?_
 refine tkQ 1 ?_
 refine tkQ 2 ?_
 refine tkQ 3 ?_
 refine tkQ 4 ?_
 refine rdQ 5 (λK hK=>?_);go_simp
 refine hkQ hK (⟨c1,c2,r0,r1⟩) (λhHeld=>?_);clear hK K
 refine tkQ 6 ?_
 refine tkQ 7 ?_
 refine tkQ 8 ?_
 refine rdQ 9 (λK hK=>?_);go_simp
 refine hkQ hK (⟨c1,c2,r0,r1⟩) (λhHeld=>?_);clear hK K
 refine rdQ 10 (λK hK=>?_);go_simp
 refine hkQ hK (⟨c1,c2,r0,r1⟩) (λhHeld=>?_);clear hK K
 refine wpAnyH_done (by kernel_rfl) ?_ _;clear hHeld hlk;go_upto_region 4 with fail
 have hb5:=(Below.refl wd.heap.size wd).drew;replace hB:=hB.drew
 replace pR:=AtL.drew pR
 replace hS:=FS.below hS hb5
 clear r0 r1 c1 c2 hb5;have r0:=pR.2.1 0 _ rfl;have r1:=pR.2.1 1 _ rfl;have c1:=hS.hd;have c2:=hS.mp;have hb6:∀ we:World,Below we.heap.size we (we.alloc (.cells #[.int .i64 (m:Int),.int .i64 a] 193)):=λwe=>zAK (Below.refl _ we) _
 refine wp_region_held_drew (S:=λW=>W.cell? ⟨b,2,none⟩=some (.map (some mb))/\W.cell? ⟨w.heap.size,0,none⟩=some (.int .i64 (m:Int))/\W.cell? ⟨w.heap.size,1,none⟩=some (.int .i64 a)) (by kernel_rfl) ⟨c2,r0,r1⟩ (λhHeld=>?_);generalize wd.drew=we at *;refine tkQ 0 ?_
 refine tkQ 1 ?_
 refine tkQ 2 ?_
 refine tkQ 3 ?_
 refine tkQ 5 ?_
 refine wpAnyH_ready (rs:=[4,6]) (by kernel_rfl) (by simp) ?_;refine AllReadyH.cons (atQ rfl) (λK hK=>?_) (AllReadyH.cons (atQ rfl) (λK hK=>?_) AllReadyH.nil)
 ·go_simp
  refine hkQ hK ⟨c2,r0,r1⟩ (λhHeld=>?_);clear hK K
  refine rdQ 6 (λK hK=>?_);go_simp
  refine hkQ hK (⟨zAC (hb6 we) c2,zAC (hb6 we) r0,zAC (hb6 we) r1⟩) (λhHeld=>?_);clear hK K
  have pN:=AtL.new0 we 193 [.int .i64 (m:Int),.int .i64 a];replace hS:=FS.below hS (hb6 we)
  replace hB:=zAB hB (hb6 we)
  replace r0:=zAC (hb6 we) r0
  replace r1:=zAC (hb6 we) r1
  replace c1:=zAC (hb6 we) c1
  replace c2:=zAC (hb6 we) c2
  replace pR:=AtL.below (hb6 we) pR
  generalize (we.alloc (.cells #[.int .i64 (m:Int),.int .i64 a] 193))=wf at *;clear hb6;obtain ⟨i0,hi0,hz0,hz1,hz2⟩:=info_parts zEK;refine rdQ 7 (λK hK=>?_);refine wp_append_own _ (.tmp 28) (.tmp 30) 124 rfl (b+1) 193 i0 _ 2 16 underlying124 hi0 hz0 hz1 hz2 rfl (by decide) lv F.length (zBL F) rfl hS.own ⟨we.heap.size,0,none⟩ 1 1 (zBL [(m,a)]) rfl rfl (λj u hj=>by have:=pN.2.1 j u hj;rw [show (⟨we.heap.size,0,none⟩:Addr).add j=⟨we.heap.size,j,none⟩ from by simp [Addr.add];intro h;exact h.symm];exact this) (by intro u hu;simp [zBL] at hu;rcases hu with rfl | rfl <;> rfl) (by unfold maxLen;omega) (by omega) (zAV c1) ?_;intro v' w7 own hg _;obtain ⟨g',cap',ev⟩:∃ g' cap',v'=.slice (some ⟨g',0,none⟩) (F.length+1) cap':=by
   rcases own.2 with ⟨_,h0⟩ | ⟨g',cap',cur',e,_⟩
   ·omega
   ·exact ⟨g',cap',e⟩
  subst ev;have fr7:Fr lv.ownBlock.toList wf w7:=Fr.of_grown hg (λk e=>by simp [e]);have nb:b ∉ lv.ownBlock.toList:=λe=>by have:=HG.out b (by simpa using e);omega
  have nm:mb ∉ lv.ownBlock.toList:=λe=>by have:=HG.out mb (by simpa using e);have:=hS.lt;omega
  have nr:w.heap.size ∉ lv.ownBlock.toList:=λe=>by have:=HG.out w.heap.size (by simpa using e);omega
  have f1:w7.frozen? ⟨b,1,none⟩=false:=by rw [fr7.frozen (zAV c1) nb];exact hS.hf
  replace c1:=fr7.cell c1 nb
  replace c2:=fr7.cell c2 nb
  replace r0:=fr7.cell r0 nr
  replace r1:=fr7.cell r1 nr
  have fm7:=fr7.fm hS.fm nm;have FB:Fr (b::mb::lv.ownBlock.toList) w w7:=(Fr.of_below _ hB).trans (fr7.mono (λk hk=>by simp [hk]));have HZ0:Hid (∀ u,w.cell? ⟨b,0,none⟩=some u->w7.cell? ⟨b,0,none⟩=some u):=λu hu=>fr7.cell (zAC hB hu) nb
  refine hkQ hK ⟨c2,r0,r1⟩ (λhHeld=>?_);clear hK K
  refine tkQ 8 ?_
  refine tkQ 9 ?_
  refine rdQ 10 (λK hK=>?_);have nrb:w.heap.size ≠ b:=by have:=zAV hfs.hd;omega
  have e2:(w7.setCell ⟨b,1,none⟩ (.slice (some ⟨g',0,none⟩) (F.length+1) cap')).cell? ⟨b,2,none⟩=some (.map (some mb)):=by rw [zAM _ _ _ (by decide)];exact c2
  have e0:(w7.setCell ⟨b,1,none⟩ (.slice (some ⟨g',0,none⟩) (F.length+1) cap')).cell? ⟨w.heap.size,0,none⟩=some (.int .i64 (m:Int)):=by rw [World.cell?_setCell_far _ _ _ _ (by simp;omega)];exact r0
  have e1:(w7.setCell ⟨b,1,none⟩ (.slice (some ⟨g',0,none⟩) (F.length+1) cap')).cell? ⟨w.heap.size,1,none⟩=some (.int .i64 a):=by rw [World.cell?_setCell_far _ _ _ _ (by simp;omega)];exact r1
  go_simp
  refine hkQ hK ⟨e2,e0,e1⟩ (λhHeld=>?_);clear hK K
  refine wpAnyH_done (by kernel_rfl) ?_ _;clear hHeld;have fr8:Fr [b] w7 (w7.setCell ⟨b,1,none⟩ (.slice (some ⟨g',0,none⟩) (F.length+1) cap')):=Fr.of_grown (zAL _ _ _ _) (λk e=>by cases e;simp);have d1:(w7.setCell ⟨b,1,none⟩ (.slice (some ⟨g',0,none⟩) (F.length+1) cap')).cell? ⟨b,1,none⟩=some (.slice (some ⟨g',0,none⟩) (F.length+1) cap'):=zAQ c1 _;have d2:(w7.setCell ⟨b,1,none⟩ (.slice (some ⟨g',0,none⟩) (F.length+1) cap')).frozen? ⟨b,1,none⟩=false:=by rw [World.frozen?_setCell];exact f1
  have gb:=(zAT own (g:=g') rfl).1;have own8:=zAc fr8 own (λg e=>zEI (by omega) e);have fm8:=fr8.fm fm7 (by have:=hS.lt;simp;omega);replace FB:=FB.trans (fr8.mono (λk hk=>by simp at hk;simp [hk]))
  have HZ1:Hid (∀ u,w.cell? ⟨b,0,none⟩=some u->(w7.setCell ⟨b,1,none⟩ (.slice (some ⟨g',0,none⟩) (F.length+1) cap')).cell? ⟨b,0,none⟩=some u):=λu hu=>by rw [zAM _ _ _ (by decide)];exact HZ0.out u hu
  have hlt:=hS.lt;clear HZ0 c1 c2 r0 r1 f1 fr7 fr8 fm7 own hg nb nm nr pN pR hS hB hi0 hz0 hz1 hz2 HG;generalize w7.setCell ⟨b,1,none⟩ (.slice (some ⟨g',0,none⟩) (F.length+1) cap')=w8 at *;go_upto_region 6 with fail
  have hd8:=(Below.refl w8.heap.size w8).drew;replace FB:=FB.trans (Fr.of_below _ hd8)
  replace HZ1:Hid (∀ u,w.cell? ⟨b,0,none⟩=some u->w8.drew.cell? ⟨b,0,none⟩=some u):=λu hu=>zAC hd8 (HZ1.out u hu)
  replace d1:=zAC hd8 d1
  replace e2:=zAC hd8 e2
  replace e0:=zAC hd8 e0
  replace e1:=zAC hd8 e1
  have d2:w8.drew.frozen? ⟨b,1,none⟩=false:=d2;replace own8:=zAc (Fr.of_below [] hd8) own8 (by simp)
  replace fm8:=fm8.below hd8
  clear hd8;refine wp_region_held_drew (S:=λW=>W.cell? ⟨b,2,none⟩=some (.map (some mb))/\W.cell? ⟨w.heap.size,0,none⟩=some (.int .i64 (m:Int))/\W.cell? ⟨w.heap.size,1,none⟩=some (.int .i64 a)) (by kernel_rfl) ⟨e2,e0,e1⟩ (λhHeld=>?_);generalize w8.drew=w9 at *;refine tkQ 0 ?_
  refine tkQ 1 ?_
  refine tkQ 2 ?_
  refine tkQ 3 ?_
  refine tkQ 4 ?_
  refine tkQ 5 ?_
  obtain ⟨wu,hu,fmu,hgu⟩:=zMg fm8 HK.out;unfold fr2 at hu;have fru:Fr [mb] w9 wu:=Fr.of_grown hgu (λk e=>by cases e;simp);have nbm:b ∉ [mb]:=by simp;omega
  have nrm:w.heap.size ∉ [mb]:=by have:=zAV hfs.hd;simp;omega
  refine rdQ 6 (λK hK=>?_);go_simp
  refine hkQ hK (⟨fru.cell e2 nbm,fru.cell e0 nrm,fru.cell e1 nrm⟩) (λhHeld=>?_);clear hK K
  refine wpAnyH_done (by kernel_rfl) ?_ _;clear hHeld;have fin:FS wu b mb (.slice (some ⟨g',0,none⟩) (F.length+1) cap') (F++[(m,a)]):=⟨fru.cell d1 nbm,by rw [fru.frozen (zAV d1) nbm];exact d2,by rw [List.length_append,zBr];exact zAc fru own8 (λg e=>zEI (by omega) e),fru.cell e2 nbm,fmu,hlt⟩
  have HZ2:∀ u,w.cell? ⟨b,0,none⟩=some u->wu.cell? ⟨b,0,none⟩=some u:=λu hu=>fru.cell (HZ1.out u hu) nbm
  have FC:=FB.trans (fru.mono (λk hk=>by simp at hk;simp [hk]));have HFIN:Hid (FS wu b mb (.slice (some ⟨g',0,none⟩) (F.length+1) cap') (F++[(m,a)])):=fin;clear fin hu fmu hgu fru d1 d2 e0 e1 e2 own8 fm8 FB HZ1;go_wp2;go_ret;exact ⟨by simp,⟨_,HFIN.out⟩,FC,HZ2⟩
 ·go_simp
  refine hkQ hK (⟨zAC (hb6 we) c2,zAC (hb6 we) r0,zAC (hb6 we) r1⟩) (λhHeld=>?_);clear hK K
  have pN:=AtL.new0 we 193 [.int .i64 (m:Int),.int .i64 a];replace hS:=FS.below hS (hb6 we)
  replace hB:=zAB hB (hb6 we)
  replace r0:=zAC (hb6 we) r0
  replace r1:=zAC (hb6 we) r1
  replace c1:=zAC (hb6 we) c1
  replace c2:=zAC (hb6 we) c2
  replace pR:=AtL.below (hb6 we) pR
  generalize (we.alloc (.cells #[.int .i64 (m:Int),.int .i64 a] 193))=wf at *;refine rdQ 4 (λK hK=>?_);go_simp
  refine hkQ hK (⟨c2,r0,r1⟩) (λhHeld=>?_);clear hK K
  clear hb6;obtain ⟨i0,hi0,hz0,hz1,hz2⟩:=info_parts zEK;refine rdQ 7 (λK hK=>?_);refine wp_append_own _ (.tmp 28) (.tmp 30) 124 rfl (b+1) 193 i0 _ 2 16 underlying124 hi0 hz0 hz1 hz2 rfl (by decide) lv F.length (zBL F) rfl hS.own ⟨we.heap.size,0,none⟩ 1 1 (zBL [(m,a)]) rfl rfl (λj u hj=>by have:=pN.2.1 j u hj;rw [show (⟨we.heap.size,0,none⟩:Addr).add j=⟨we.heap.size,j,none⟩ from by simp [Addr.add];intro h;exact h.symm];exact this) (by intro u hu;simp [zBL] at hu;rcases hu with rfl | rfl <;> rfl) (by unfold maxLen;omega) (by omega) (zAV c1) ?_;intro v' w7 own hg _;obtain ⟨g',cap',ev⟩:∃ g' cap',v'=.slice (some ⟨g',0,none⟩) (F.length+1) cap':=by
   rcases own.2 with ⟨_,h0⟩ | ⟨g',cap',cur',e,_⟩
   ·omega
   ·exact ⟨g',cap',e⟩
  subst ev;have fr7:Fr lv.ownBlock.toList wf w7:=Fr.of_grown hg (λk e=>by simp [e]);have nb:b ∉ lv.ownBlock.toList:=λe=>by have:=HG.out b (by simpa using e);omega
  have nm:mb ∉ lv.ownBlock.toList:=λe=>by have:=HG.out mb (by simpa using e);have:=hS.lt;omega
  have nr:w.heap.size ∉ lv.ownBlock.toList:=λe=>by have:=HG.out w.heap.size (by simpa using e);omega
  have f1:w7.frozen? ⟨b,1,none⟩=false:=by rw [fr7.frozen (zAV c1) nb];exact hS.hf
  replace c1:=fr7.cell c1 nb
  replace c2:=fr7.cell c2 nb
  replace r0:=fr7.cell r0 nr
  replace r1:=fr7.cell r1 nr
  have fm7:=fr7.fm hS.fm nm;have FB:Fr (b::mb::lv.ownBlock.toList) w w7:=(Fr.of_below _ hB).trans (fr7.mono (λk hk=>by simp [hk]));have HZ0:Hid (∀ u,w.cell? ⟨b,0,none⟩=some u->w7.cell? ⟨b,0,none⟩=some u):=λu hu=>fr7.cell (zAC hB hu) nb
  refine hkQ hK ⟨c2,r0,r1⟩ (λhHeld=>?_);clear hK K
  refine tkQ 8 ?_
  refine tkQ 9 ?_
  refine rdQ 10 (λK hK=>?_);have nrb:w.heap.size ≠ b:=by have:=zAV hfs.hd;omega
  have e2:(w7.setCell ⟨b,1,none⟩ (.slice (some ⟨g',0,none⟩) (F.length+1) cap')).cell? ⟨b,2,none⟩=some (.map (some mb)):=by rw [zAM _ _ _ (by decide)];exact c2
  have e0:(w7.setCell ⟨b,1,none⟩ (.slice (some ⟨g',0,none⟩) (F.length+1) cap')).cell? ⟨w.heap.size,0,none⟩=some (.int .i64 (m:Int)):=by rw [World.cell?_setCell_far _ _ _ _ (by simp;omega)];exact r0
  have e1:(w7.setCell ⟨b,1,none⟩ (.slice (some ⟨g',0,none⟩) (F.length+1) cap')).cell? ⟨w.heap.size,1,none⟩=some (.int .i64 a):=by rw [World.cell?_setCell_far _ _ _ _ (by simp;omega)];exact r1
  go_simp
  refine hkQ hK ⟨e2,e0,e1⟩ (λhHeld=>?_);clear hK K
  refine wpAnyH_done (by kernel_rfl) ?_ _;clear hHeld;have fr8:Fr [b] w7 (w7.setCell ⟨b,1,none⟩ (.slice (some ⟨g',0,none⟩) (F.length+1) cap')):=Fr.of_grown (zAL _ _ _ _) (λk e=>by cases e;simp);have d1:(w7.setCell ⟨b,1,none⟩ (.slice (some ⟨g',0,none⟩) (F.length+1) cap')).cell? ⟨b,1,none⟩=some (.slice (some ⟨g',0,none⟩) (F.length+1) cap'):=zAQ c1 _;have d2:(w7.setCell ⟨b,1,none⟩ (.slice (some ⟨g',0,none⟩) (F.length+1) cap')).frozen? ⟨b,1,none⟩=false:=by rw [World.frozen?_setCell];exact f1
  have gb:=(zAT own (g:=g') rfl).1;have own8:=zAc fr8 own (λg e=>zEI (by omega) e);have fm8:=fr8.fm fm7 (by have:=hS.lt;simp;omega);replace FB:=FB.trans (fr8.mono (λk hk=>by simp at hk;simp [hk]))
  have HZ1:Hid (∀ u,w.cell? ⟨b,0,none⟩=some u->(w7.setCell ⟨b,1,none⟩ (.slice (some ⟨g',0,none⟩) (F.length+1) cap')).cell? ⟨b,0,none⟩=some u):=λu hu=>by rw [zAM _ _ _ (by decide)];exact HZ0.out u hu
  have hlt:=hS.lt;clear HZ0 c1 c2 r0 r1 f1 fr7 fr8 fm7 own hg nb nm nr pN pR hS hB hi0 hz0 hz1 hz2 HG;generalize w7.setCell ⟨b,1,none⟩ (.slice (some ⟨g',0,none⟩) (F.length+1) cap')=w8 at *;go_upto_region 6 with fail
  have hd8:=(Below.refl w8.heap.size w8).drew;replace FB:=FB.trans (Fr.of_below _ hd8)
  replace HZ1:Hid (∀ u,w.cell? ⟨b,0,none⟩=some u->w8.drew.cell? ⟨b,0,none⟩=some u):=λu hu=>zAC hd8 (HZ1.out u hu)
  replace d1:=zAC hd8 d1
  replace e2:=zAC hd8 e2
  replace e0:=zAC hd8 e0
  replace e1:=zAC hd8 e1
  have d2:w8.drew.frozen? ⟨b,1,none⟩=false:=d2;replace own8:=zAc (Fr.of_below [] hd8) own8 (by simp)
  replace fm8:=fm8.below hd8
  clear hd8;refine wp_region_held_drew (S:=λW=>W.cell? ⟨b,2,none⟩=some (.map (some mb))/\W.cell? ⟨w.heap.size,0,none⟩=some (.int .i64 (m:Int))/\W.cell? ⟨w.heap.size,1,none⟩=some (.int .i64 a)) (by kernel_rfl) ⟨e2,e0,e1⟩ (λhHeld=>?_);generalize w8.drew=w9 at *;refine tkQ 0 ?_
  refine tkQ 1 ?_
  refine tkQ 2 ?_
  refine tkQ 3 ?_
  refine tkQ 4 ?_
  refine tkQ 5 ?_
  obtain ⟨wu,hu,fmu,hgu⟩:=zMg fm8 HK.out;unfold fr2 at hu;have fru:Fr [mb] w9 wu:=Fr.of_grown hgu (λk e=>by cases e;simp);have nbm:b ∉ [mb]:=by simp;omega
  have nrm:w.heap.size ∉ [mb]:=by have:=zAV hfs.hd;simp;omega
  refine rdQ 6 (λK hK=>?_);go_simp
  refine hkQ hK (⟨fru.cell e2 nbm,fru.cell e0 nrm,fru.cell e1 nrm⟩) (λhHeld=>?_);clear hK K
  refine wpAnyH_done (by kernel_rfl) ?_ _;clear hHeld;have fin:FS wu b mb (.slice (some ⟨g',0,none⟩) (F.length+1) cap') (F++[(m,a)]):=⟨fru.cell d1 nbm,by rw [fru.frozen (zAV d1) nbm];exact d2,by rw [List.length_append,zBr];exact zAc fru own8 (λg e=>zEI (by omega) e),fru.cell e2 nbm,fmu,hlt⟩
  have HZ2:∀ u,w.cell? ⟨b,0,none⟩=some u->wu.cell? ⟨b,0,none⟩=some u:=λu hu=>fru.cell (HZ1.out u hu) nbm
  have FC:=FB.trans (fru.mono (λk hk=>by simp at hk;simp [hk]));have HFIN:Hid (FS wu b mb (.slice (some ⟨g',0,none⟩) (F.length+1) cap') (F++[(m,a)])):=fin;clear fin hu fmu hgu fru d1 d2 e0 e1 e2 own8 fm8 FB HZ1;go_wp2;go_ret;exact ⟨by simp,⟨_,HFIN.out⟩,FC,HZ2⟩
