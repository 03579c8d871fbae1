/- MLawFills. -/
import Derived.Test.YtdghjlmnlodnlaaGreatDoorQ43
set_option maxHeartbeats 16000000
set_option maxRecDepth 100000
namespace Go.Proofs.YtdghjlmnlodnlaaGreatDoor
open Tryz
open Go.RowKit Go.Shelf
set_option linter.unusedVariables false
variable {n:Nat} {F:Nat->Wpl.Cl}
def fln (l:List UInt8) (s0 r0 c0:Int) (n:Nat) (F:Nat->Wpl.Cl):Nat:=if fcR l s0 r0 c0 n F=0 then n else 0
theorem zq39 (l:List UInt8) (s0 r0 c0:Int) (n:Nat) (F:Nat->Wpl.Cl):fln l s0 r0 c0 n F<=n:=by
 unfold fln;split <;> omega
theorem FillR.two {l:List UInt8} {s0 r0 c0:Int} {e:Ending} {w':World} (h:FillR l s0 r0 c0 n F e w'):∃ av cap,e=.returned (.tuple #[.slice av (fln l s0 r0 c0 n F) cap,.int .i64 (fcR l s0 r0 c0 n F)])/\StrV w' av (fln l s0 r0 c0 n F) λi=>(cpi l r0 c0 F i).1:=by
 obtain ⟨v,rfl,h1,h2⟩:=h;unfold fln;by_cases hc:fcR l s0 r0 c0 n F=0
 ·obtain ⟨av,cap,rfl,h3⟩:=h2 hc;rw [if_pos hc];exact ⟨av,cap,rfl,h3⟩
 ·rw [h1 hc,if_neg hc];exact ⟨none,0,rfl,λj hj=>absurd hj (Nat.not_lt_zero _)⟩
theorem zq26 (b:ByteArray) (s0 r0 c0:Int) (av:Option Addr) (n cap:Nat) (F:Nat->Wpl.Cl) (w:World) (hE:Env w) (hk8:8<=w.heap.size) (hs:b.size<=9223372036854775807) (hv:CelV w av n F) (hn:True->n<=4000) :
  Calls prog 12 #[.string b,.agg #[.int .i64 s0,.int .i64 r0,.int .i64 c0],.slice av n cap] w λe w'=>FillR b.data.toList s0 r0 c0 n F e w'/\Below w.heap.size w w':=by
 cases h:(Wpl.rightC s0 r0 c0 && zq4 F n) with
 | false=>exact (zq31 b s0 r0 c0 av n cap F w hv hn h).mono λe w' q=>⟨FillP.r (B:=0) (Or.inl ⟨h,q.1⟩),q.2⟩
 | true =>
  have h2:=h;rw [Bool.and_eq_true] at h2;exact (zq32 b s0 r0 c0 av n cap F w hE hk8 hs hv hn h2.1 h2.2).mono λe w' q=>⟨q.1.r,q.2⟩
def ftl:List Value:=[.int .i64 0,.int .i64 (-77),.int .i64 0,.int .i64 0,.int .i64 (-78),.int .i64 0]
theorem zq33:∀ u ∈ ftl,u.oneCell'=true:=by
 intro u hu;simp [ftl] at hu;rcases hu with rfl | rfl | rfl | rfl | rfl | rfl <;> rfl
theorem zq18 (w:World):∀ j u,ftl[j]? = some u->(w.alloc (.cells #[.int .i64 0,.int .i64 (-77),.int .i64 0,.int .i64 0,.int .i64 (-78),.int .i64 0] 41)).cell? ((⟨w.heap.size,0,none⟩:Addr).add j)=some u:=by
 intro j u h;have:=(AtL.new0 w 41 ftl).2.1 j u h;rw [Addr.add_mid,Nat.zero_add];exact this
theorem zq30 (w:World) (B:Nat) (hB:B<=w.heap.size):(w.alloc (.cells #[] 41)).ownsRow B 41 3 (.slice (some ⟨w.heap.size,0,none⟩) 0 0) 0 [] :=
 World.ownsRow_lit w #[] 0 hB (Nat.zero_le _) rfl
theorem zq22:(prog.info? 41).map (λi=>(i.zero,i.size,i.bytes))=some (some (.agg #[.int .i64 0,.int .i64 0,.int .i64 0]),3,24):=by kernel_rfl
theorem zq15 {w:World} {av:Option Addr} (h:CelV w av n F):∀ ad,av=some ad->∀ j u,(rowC F n)[j]? = some u->w.cell? (ad.add j)=some u:=by
 intro ad had j u hu;have hj:j<n * 3:=by
  have:=(List.getElem?_eq_some_iff.1 hu).1;rw [zq1] at this;exact this
 have hc:zSW w (ad.block) (ad.off) n F:=by
  intro i hi;obtain ⟨bb,off,e,h0⟩:=h i hi;rw [had] at e;obtain rfl:=Option.some.inj e;exact h0
 obtain ⟨bb,off,e,-⟩:=h 0 (by omega);rw [had] at e;obtain rfl:=Option.some.inj e;exact zq14 hc j u hu
theorem zq13 (b:ByteArray) (s0 r0 c0:Int) (av:Option Addr) (n cap:Nat) (F:Nat->Wpl.Cl) (w:World) (hE:Env w) (hk8:8<=w.heap.size) (hs:b.size<=9223372036854775807) (hv:CelV w av n F) (hno:av=none->n=0/\cap=0) (h2000:n<=2000) (hn:True->n<=4000) :
  CR 5 #[.string b,.agg #[.int .i64 s0,.int .i64 r0,.int .i64 c0],.slice av n cap] w (.bool true):=by
 have pA0:=AtL.new0 w 41 [.int .i64 s0,.int .i64 r0,.int .i64 c0];have hB0:=zAI (Below.refl _ w) (.cells #[.int .i64 s0,.int .i64 r0,.int .i64 c0] 41);have hz00:(w.alloc (.cells #[.int .i64 s0,.int .i64 r0,.int .i64 c0] 41)).heap.size=w.heap.size+1:=by simp
 obtain ⟨i0,hi0,hz0,hz1,hz2⟩:=info_parts zq22;have HS:Hid (b.size<=9223372036854775807):=hs;have hv0:=hv.below hB0;have hli:¬ (2000:Int)<(n:Int):=by omega
 have hcA:=zq15 (hv0.below ((Below.refl _ _).alloc (Nat.le_refl _) (.cells #[] 41)));have hownA:=zq30 (w.alloc (.cells #[.int .i64 s0,.int .i64 r0,.int .i64 c0] 41)) (w.heap.size+1) (by omega);rw [hz00] at hownA;clear hs hv0 h2000;go_enter func5,ntmps5;go_wp2_with (at_builtin;refine zq2 (by rfl) (.tmp 17) (.tmp 18) 42 (by rfl) (w.heap.size+1) 41 i0 (.agg #[.int .i64 0,.int .i64 0,.int .i64 0]) 3 24 underlying42 hi0 hz0 hz1 hz2 rfl (by decide) _ 0 _ (by rfl) hownA av n cap (rowC F n) (by rfl) hno (zq1 F n) hcA zq27 (by have:=hn trivial;unfold maxLen;omega) (by have:=hn trivial;omega) (by simp only [World.size_alloc];omega) ?_)
 intro v1 w1 own1 hg1;have hB1:Below w.heap.size w w1:=(zAI hB0 _).grown hg1 (by simp only [World.size_alloc];omega) (λk hk=>by simp only [Value.ownBlock,Option.some.injEq] at hk;omega);have pA1:AtL w1 w.heap.size [.int .i64 s0,.int .i64 r0,.int .i64 c0]:=(pA0.alloc _).grown hg1 (λe=>by simp only [Value.ownBlock,Option.some.injEq] at e;omega);have hs1:=pA1.lt;clear hcA hownA hg1 pA0 hB0;go_wp2_with (at_builtin;refine wpList_append_own _ (by rfl) (.tmp 19) (.tmp 22) 42 (by rfl) (w.heap.size+1) 41 i0 (.agg #[.int .i64 0,.int .i64 0,.int .i64 0]) 3 24 underlying42 hi0 hz0 hz1 hz2 rfl (by decide) v1 n _ (by rfl) (World.ownsRow.alloc own1 _) ⟨w1.heap.size,0,none⟩ 2 2 ftl (by rfl) rfl (zq18 w1) zq33 (by have:=hn trivial;unfold maxLen;omega) (by have:=hn trivial;omega) (by simp only [World.size_alloc];omega) ?_)
 intro v2 w2 own2 hg2 _;have hub:∀ j,v1.ownBlock=some j->w.heap.size+1<=j:=λj e=>(World.ownsRow.lt own1 j e).1
 have hB2:Below w.heap.size w w2:=(zAI hB1 _).grown hg2 (by simp only [World.size_alloc];omega) (λk hk=>by have:=hub k hk;omega);have pA2:AtL w2 w.heap.size [.int .i64 s0,.int .i64 r0,.int .i64 c0]:=(pA1.alloc _).grown hg2 (λe=>by have:=hub _ e.symm;omega);have hv2:=hv.below hB2;clear own1 hg2 hub pA1 hB1 hv;obtain ⟨kL,cap2,rfl,hk1,hk2⟩:∃ kL cap2,v2=.slice (some ⟨kL,0,none⟩) (n+2) cap2/\n+2<=cap2/\cap2<=maxLen:=by
  rcases own2.2 with ⟨-,h0⟩ | ⟨kL,cap2,cur,e,hk0,-,hk1,hk2,-,-⟩
  ·omega
  ·exact ⟨kL,cap2,e,hk1,hk2⟩
 have lC:CelV w2 (some ⟨kL,0,none⟩) n F:=λj hj=>⟨kL,0,rfl,(zq37 (ts:=ftl) (λj hj=>World.ownsRow.cellAt own2 _ (by omega))) j hj⟩
 have L:=zq1 F n;have t1:w2.cell? ⟨kL,n * 3+1,none⟩=some (.int .i64 (-77)):=by rw [World.ownsRow.cellAt own2 _ (by omega),List.getElem?_append_right (by omega),L,show n * 3+1 - n * 3=1 by omega];rfl
 have t2:w2.cell? ⟨kL,(n+1) * 3+1,none⟩=some (.int .i64 (-78)):=by rw [World.ownsRow.cellAt own2 _ (by omega),List.getElem?_append_right (by omega),L,show (n+1) * 3+1 - n * 3=4 by omega];rfl
 unfold maxLen at hk2;have k1:(n:Int)<=(cap2:Int):=by omega
 have k2:(cap2:Int)<=9223372036854775807:=by omega
 have hn2:((n:Int)+1).toNat=n+1:=by omega
 clear own2 L hk1 hk2 hi0 hz0 hz1 hz2;go_upto_region 4 with fail
 have pD:=AtL.drew pA2;have hbD:=(Below.refl w2.heap.size w2).drew;have hBD:=zAA hB2 hbD;have lCD:=lC.below hbD;have hvD:=hv2.below hbD;have t1D:=zAM hbD t1;have t2D:=zAM hbD t2;clear pA2 hB2 lC hv2 t1 t2 hbD;refine wp_region_held_drew (S:=λW=>W.rangeAt w.heap.size 0 [.int .i64 s0,.int .i64 r0,.int .i64 c0]) (by kernel_rfl) pD.range (λhHeld=>?_);generalize w2.drew=WD at *;refine tkQ 0 ⟨some 25,.move (.tmp 0),9,"law.go:49",#[],none⟩ ?_
 refine wpAnyH_take (i:=1) (oi:=⟨some 26,.load 41 (.tmp 4),41,"law.go:49",#[],none⟩) (v:=.agg ([.int .i64 s0,.int .i64 r0,.int .i64 c0]).toArray) rfl (by kernel_rfl) (by kernel_rfl) (by kernel_rfl) (λ_ _ _ h=>h) (yieldsIf_load_mid (by rfl) 41 (.tmp 4) rfl w.heap.size 0 rfl ([.int .i64 s0,.int .i64 r0,.int .i64 c0]) _ (λ_ h=>h) underlying41 rfl (by kernel_rfl)) (by assumption) ?_;try simp only [Act.put,lA,lZ,lS]
 refine tkQ 2 ⟨some 27,.move (.tmp 7),42,"law.go:49",#[],none⟩ ?_
 refine tkQ 3 ⟨some 28,.move (.tmp 2),42,"law.go:49",#[],none⟩ ?_
 refine tkQ 4 ⟨some 29,.call {callee:=Callee.builtin Builtin.len,args:=#[.tmp 28],argTypes:=#[42]},3,"law.go:49",#[⟨3,.data⟩],none⟩ ?_
 refine tkQ 5 ⟨some 30,.slice 42 (.tmp 27) Option.none (Option.some (.tmp 29)) Option.none,42,"law.go:49",#[⟨2,.data⟩,⟨4,.data⟩],none⟩ ?_
 refine rdQ 6 ⟨some 31,.call {callee:=Callee.value (Operand.func 12),args:=#[.tmp 25,.tmp 26,.tmp 30],argTypes:=#[9,41,42]},44,"law.go:49",#[⟨0,.data⟩,⟨1,.data⟩,⟨5,.data⟩],none⟩ (λK hK=>?_);go_simp
 refine (zq26 b s0 r0 c0 (some ⟨kL,0,none⟩) n cap2 F WD (hE.below hBD) (Nat.le_trans hk8 hBD.size) HS.out lCD hn).mono ?_;rintro e w6 ⟨hp6,hb6⟩;obtain ⟨av6,cap6,rfl,hs6⟩:=FillR.two hp6;have pD6:=AtL.below hb6 pD;have hB6:=zAA hBD hb6;have hv6:=hvD.below hb6;have HL6:Hid (CelV w6 (some ⟨kL,0,none⟩) n F):=lCD.below hb6;have HT6:Hid (w6.cell? ⟨kL,n * 3+1,none⟩=some (.int .i64 (-77))/\w6.cell? ⟨kL,(n+1) * 3+1,none⟩=some (.int .i64 (-78))):=⟨zAM hb6 t1D,zAM hb6 t2D⟩
 have HS6:Hid (StrV w6 av6 (fln b.data.toList s0 r0 c0 n F) λi=>(cpi b.data.toList r0 c0 F i).1):=hs6;clear hp6 hs6 hb6 lCD hvD t1D t2D hBD pD;go_wp2_with fail
 refine hkQ hK pD6.range (λhHeld=>?_);clear hK K
 refine tkQ 7 ⟨some 24,.move (.tmp 31),44,"law.go:49",#[⟨6,.data⟩],none⟩ ?_
 refine tkQ 8 ⟨some 32,.extract (.tmp 24) 0,43,"law.go:49",#[⟨7,.data⟩],none⟩ ?_
 refine tkQ 9 ⟨some 33,.extract (.tmp 24) 1,31,"law.go:49",#[⟨7,.data⟩,⟨10,.gcOnly .lateStores⟩],none⟩ ?_
 refine rdQ 10 ⟨some 8,.assign (.tmp 32),43,"law.go:49",#[⟨8,.data⟩,⟨6,.chain⟩,⟨0,.phase⟩,⟨1,.phase⟩,⟨2,.phase⟩,⟨3,.phase⟩,⟨4,.phase⟩,⟨5,.phase⟩,⟨6,.phase⟩,⟨7,.phase⟩,⟨8,.phase⟩,⟨9,.textOnly .lateStores⟩],none⟩ (λK hK=>?_);go_simp
 refine hkQ hK pD6.range (λhHeld=>?_);clear hK K
 refine rdQ 11 ⟨some 9,.assign (.tmp 33),31,"law.go:49",#[⟨9,.data⟩,⟨10,.chain⟩,⟨0,.phase⟩,⟨1,.phase⟩,⟨2,.phase⟩,⟨3,.phase⟩,⟨4,.phase⟩,⟨5,.phase⟩,⟨6,.phase⟩,⟨7,.phase⟩,⟨8,.phase⟩,⟨9,.phase⟩,⟨10,.phase⟩],none⟩ (λK hK=>?_);go_simp
 refine hkQ hK pD6.range (λhHeld=>?_);clear hK K
 refine wpAnyH_done (by kernel_rfl) ?_ _;clear hHeld;have hm:=zq39 b.data.toList s0 r0 c0 n F;have S7:=zq23 b s0 r0 c0 av n cap F w6 HS.out hv6 hn;have HT7:=λe w' (h:FillR b.data.toList s0 r0 c0 n F e w')=>FillR.two h
 generalize fln b.data.toList s0 r0 c0 n F=m at *;generalize fcR b.data.toList s0 r0 c0 n F=c at *;have HM:True->m<=n:=λ_=>hm
 have HV6:Hid (CelV w6 av n F):=hv6;obtain ⟨a0,a1,a2,f0,f1,f2⟩:=pD6.three;clear hv6 hm;go_wp2_with fail
 refine S7.mono ?_;rintro e w7 ⟨hp7,hb7⟩;obtain ⟨av7,cap7,rfl,hs7⟩:=HT7 _ _ hp7;have hB7:=zAA hB6 hb7;have HS7:Hid (StrV w7 av7 m λi=>(cpi b.data.toList r0 c0 F i).1):=hs7;have HS67:Hid (StrV w7 av6 m λi=>(cpi b.data.toList r0 c0 F i).1):=HS6.out.below hb7;have HV7:Hid (CelV w7 av n F):=HV6.out.below hb7;have HL7:Hid (CelV w7 (some ⟨kL,0,none⟩) n F):=HL6.out.below hb7;have HU7:Hid (w7.cell? ⟨kL,n * 3+1,none⟩=some (.int .i64 (-77))/\w7.cell? ⟨kL,(n+1) * 3+1,none⟩=some (.int .i64 (-78))):=⟨zAM hb7 HT6.out.1,zAM hb7 HT6.out.2⟩
 have A:=zJk w7 (hE.below hB7) (Nat.le_trans hk8 hB7.size);clear S7 HT7 hp7 hs7 HS6 HV6 HL6 HT6 hB6 a0 a1 a2 f0 f1 f2 pD6 hb7;go_wp2_with fail
 refine A.mono ?_;rintro e w8 ⟨rfl,hb8⟩;have hB8:=zAA hB7 hb8;have HS8:Hid (StrV w8 av7 m λi=>(cpi b.data.toList r0 c0 F i).1):=HS7.out.below hb8;have HS68:Hid (StrV w8 av6 m λi=>(cpi b.data.toList r0 c0 F i).1):=HS67.out.below hb8;have HV8:Hid (CelV w8 av n F):=HV7.out.below hb8;have HL8:Hid (CelV w8 (some ⟨kL,0,none⟩) n F):=HL7.out.below hb8;have HU8:Hid (w8.cell? ⟨kL,n * 3+1,none⟩=some (.int .i64 (-77))/\w8.cell? ⟨kL,(n+1) * 3+1,none⟩=some (.int .i64 (-78))):=⟨zAM hb8 HU7.out.1,zAM hb8 HU7.out.2⟩
 clear A HS7 HS67 HV7 HL7 HU7 hB7 hb8;go_upto_region 9 with fail
 go_loopg [12] m (λgk v wr=>∃ i:Nat,v=.int .i64 i/\gk=m - i/\i<=m/\Below w8.heap.size w8 wr)
 case atStart=>exact ⟨0,rfl,rfl,Nat.zero_le _,Below.refl _ _⟩
 case round =>
  obtain ⟨i,rfl,hgk,hi,hb⟩:=hrel;by_cases hlt:i<m
  ·have hli2:(i:Int)<(m:Int):=by omega
   have hwi:IntKind.i64.wrap ((i:Int)+1)=(i:Int)+1:=by rw [IntKind.wrap_i64];have:=hn trivial;have:=HM trivial;omega
   obtain ⟨b1,rfl,c1⟩:=HS68.out.below hb i hlt;obtain ⟨b2,rfl,c2⟩:=HS8.out.below hb i hlt;generalize (⟨(cpi b.data.toList r0 c0 F i).1.toArray⟩:ByteArray)=X at c1 c2;go_upto_region 11 with fail
   go_quiet (fail)
   go_wp2_with fail
   go_roundg (m - (i+1))
   case rel=>exact ⟨i+1,by simp,rfl,hlt,(clB hb)⟩
   case measure=>omega
  ·have hli2:¬ (i:Int)<(m:Int):=by omega
   go_upto_region 14 with fail
   go_loopg [13] n (λgk v wr=>∃ i:Nat,v=.int .i64 i/\gk=n - i/\i<=n/\Below w8.heap.size w8 wr)
   case atStart=>exact ⟨0,rfl,rfl,Nat.zero_le _,hb⟩
   case round =>
    clear hb hlt hli2 hi hgk;obtain ⟨k,rfl,hgk,hi,hb⟩:=hrel;by_cases hlt:k<n
    ·have hli2:(k:Int)<(n:Int):=by omega
     have hlc:(k:Int)<(n:Int)+2:=by omega
     have hwi:IntKind.i64.wrap ((k:Int)+1)=(k:Int)+1:=by rw [IntKind.wrap_i64];have:=hn trivial;omega
     obtain ⟨b1,o1,e1,c10,c11,c12⟩:=HL8.out.below hb k hlt;obtain ⟨b2,o2,rfl,c20,c21,c22⟩:=HV8.out.below hb k hlt;simp only [Option.some.injEq,Addr.mk.injEq,and_true] at e1;obtain ⟨rfl,rfl⟩:=e1;simp only [Nat.zero_add] at c10 c11 c12;generalize (F k).s=y0 at *;generalize (F k).r=y1 at *;generalize (F k).c=y2 at *;go_upto_region 16 with fail
     go_quiet (fail)
     go_wp2_with fail
     go_roundg (n - (k+1))
     case rel=>exact ⟨k+1,by simp,rfl,hlt,(clB hb)⟩
     case measure=>omega
    ·have hli2:¬ (k:Int)<(n:Int):=by omega
     have u1:=zAM hb HU8.out.1;have u2:=zAM hb HU8.out.2;have hBr:=zAA hB8 hb;have hl1:(n:Int)<(n:Int)+2:=by omega
     have hl2:(n:Int)+1<(n:Int)+2:=by omega
     have hwn:IntKind.i64.wrap ((n:Int)+1)=(n:Int)+1:=by rw [IntKind.wrap_i64];have:=hn trivial;omega
     go_wp2;go_ret;exact ⟨rfl,hBr⟩
theorem zq9 (b:ByteArray) (s0 r0 c0:Int) (av:Option Addr) (n cap:Nat) (w:World) (h2000:2000<n) :
  CR 5 #[.string b,.agg #[.int .i64 s0,.int .i64 r0,.int .i64 c0],.slice av n cap] w (.bool true):=by
 have hB0:=zAI (Below.refl _ w) (.cells #[.int .i64 s0,.int .i64 r0,.int .i64 c0] 41);have hli:(2000:Int)<(n:Int):=by omega
 clear h2000;go_enter func5,ntmps5;go_wp2;go_ret;exact ⟨rfl,hB0⟩
theorem zq8 (b:ByteArray) (s0 r0 c0:Int) (av:Option Addr) (n cap:Nat) (F:Nat->Wpl.Cl) (w:World) (hE:Env w) (hk8:8<=w.heap.size) (hs:b.size<=9223372036854775807) (hv:CelV w av n F) (hno:av=none->n=0/\cap=0) :
  CR 5 #[.string b,.agg #[.int .i64 s0,.int .i64 r0,.int .i64 c0],.slice av n cap] w (.bool true):=by
 by_cases h:2000<n
 ·exact zq9 b s0 r0 c0 av n cap w h
 ·exact zq13 b s0 r0 c0 av n cap F w hE hk8 hs hv hno (by omega) (λ_=>by omega)
