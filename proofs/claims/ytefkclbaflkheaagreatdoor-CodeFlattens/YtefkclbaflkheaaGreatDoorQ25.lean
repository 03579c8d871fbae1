/- Lemmas. -/
import Derived.Test.YtefkclbaflkheaaGreatDoorQ24
set_option maxHeartbeats 1600000
set_option maxRecDepth 100000
namespace Go.Proofs.YtefkclbaflkheaaGreatDoor
open Tryz
open Go.RowKit Wf
set_option linter.unusedVariables false
variable {w w':World} {k B:Nat} {lv:Value} {es:List (Nat × Nat)} {cs:List (Nat × Nat × Nat)}
section
open Tryz
variable {L:List Wt.Nd} {bb off cap:Nat} {own:Int} {nm:List ByteArray} {av2:Option Addr} {cap2 k:Nat} {w0:World} {lv0:Value} {w:World} {Lc:List I} {lv:Value} {P:List (Wc.In × Value)} {kv:Value} {n:Nat}
theorem zK1 (ih:YNd L bb off cap own nm av2 cap2 n) {q0 q1:Nat} {ta tb:Tr n} {qr:List Nat} {tr:List (Tr n)} (h:YSt L bb off cap own nm av2 cap2 k w0 lv0 w Lc lv P kv (q0::q1::qr)) (s0:Sub L q0 n ta) (s1:Sub L q1 n tb) (f0:zAz n ta/\zBB own (nm.take 16) n ta=0) (f1:zAz n tb/\zBB own (nm.take 16) n tb=0) (a0:isA (Wf.hd n ta)=false) (a1:isA (Wf.hd n tb)=false) (hr:(qr=[]/\tr=[]) \/ ∃ qc tc,qr=[qc]/\tr=[tc]/\Sub L qc n tc/\Wr own (nm.take 16) n tc) (hb:Lc.length+(zAr (cod own (nm.take 16) n) 30 (ta::tb::tr) Lc.length).length<=800000) :
  Calls prog 91 #[.pointer (some ⟨k,0,none⟩),.int .i64 30,kv] w λe w'=>e=.returned (.tuple #[])/\∃ lv' P',YSt L bb off cap own nm av2 cap2 k w0 lv0 w' (Lc++zAr (cod own (nm.take 16) n) 30 (ta::tb::tr) Lc.length) lv' P' kv (q0::q1::qr):=by
 obtain ⟨bk,ok,capk,rfl⟩:=h.kidv (by simp);obtain ⟨nk,hnk⟩:∃ nk,(q0::q1::qr).length=nk:=⟨_,rfl⟩
 have HNK:Hid ((q0::q1::qr).length=nk):=hnk;have hn2:(1:Int)<(nk:Int):=by rw [<-hnk];simp;omega
 have hn1:(0:Int)<(nk:Int):=by omega
 simp only [hnk] at h ⊢;obtain ⟨Y,hY⟩:∃ Y,cod own (nm.take 16) n ta Lc.length=Y:=⟨_,rfl⟩
 obtain ⟨U,hU⟩:∃ U,cod own (nm.take 16) n tb (Lc.length+Y.length+1)=U:=⟨_,rfl⟩
 obtain ⟨Z,hZ⟩:∃ Z,(if tr.isEmpty then [zBU zHq] else zAR (cod own (nm.take 16) n) tr (Lc.length+Y.length+1+U.length+1))=Z:=⟨_,rfl⟩
 obtain ⟨i,hi⟩:∃ i,(Lc++Y).length=i:=⟨_,rfl⟩
 obtain ⟨m,hm⟩:∃ m,i+1+U.length+1=m:=⟨_,rfl⟩
 have hiL:i=Lc.length+Y.length:=by rw [<-hi];simp
 have hlz:Lc++zAr (cod own (nm.take 16) n) 30 (ta::tb::tr) Lc.length=(Lc++Y)++ins 12 m (m+Z.length:Nat)::(U++ins 13 (m+Z.length:Nat) 0::Z):=by
  simp only [zAr,zC5,hY,hU,<-hZ,<-hm,hiL,List.append_assoc];rfl
 have hbl:(Lc++zAr (cod own (nm.take 16) n) 30 (ta::tb::tr) Lc.length).length<=800000:=by rw [List.length_append];exact hb
 rw [hlz] at hbl ⊢;have hbd:m+Z.length<=800000:=by simp at hbl;omega
 have NA:=h.node ih s0 ⟨f0.1,f0.2,a0⟩ (by rw [hY];omega);rw [hY] at NA;have k0:=h.cellAt (j:=0) rfl;simp only [Nat.add_zero] at k0;have HU:Hid (cod own (nm.take 16) n tb (Lc++Y++[((ins 12 0 0).1,([]:List Int))]).length=U):=by show _=_;rw [List.length_append,hi,hiL];exact hU
 have HZ:Hid ((if tr.isEmpty then [zBU zHq] else zAR (cod own (nm.take 16) n) tr m)=Z):=by show _=_;rw [<-hm,hiL];exact hZ
 have HI:Hid ((Lc++Y).length=i/\i+1+U.length+1=m/\m+Z.length<=800000):=⟨hi,hm,hbd⟩
 have HIH:Hid (YNd L bb off cap own nm av2 cap2 n):=ih;have HSB:Hid (Sub L q1 n tb/\Wr own (nm.take 16) n tb):=⟨s1,f1.1,f1.2,a1⟩
 have HR:Hid ((qr=[]/\tr=[]) \/ ∃ qc tc,qr=[qc]/\tr=[tc]/\Sub L qc n tc/\Wr own (nm.take 16) n tc):=hr;clear hY hU hZ hlz hbl hb h hi ih s0 s1 f0 f1 a0 a1 hr hnk hm hiL hbd;go_enter func91,ntmps91;go_wp2_with fail
 refine NA.mono ?_;rintro e w1 ⟨rfl,lv1,P1,h1⟩;have LA:=h1.lay (ins 12 0 0).1 (by have:=HI.out;rw [this.1];omega);rw [HI.out.1] at LA;clear NA k0 h1;go_wp2_with (first | (refine zAQ rfl 12 rfl ?_))
 refine LA.mono ?_;rintro e w2 ⟨rfl,lv2,P2,h2⟩;have NB:=h2.node HIH.out HSB.out.1 HSB.out.2 (by rw [HU.out];have:=HI.out;simp at this ⊢;omega);rw [HU.out] at NB;have k1:=h2.cellAt (j:=1) rfl;clear LA h2;go_wp2_with fail
 refine NB.mono ?_;rintro e w3 ⟨rfl,lv3,P3,h3⟩;obtain ⟨j,hj⟩:∃ j,(Lc++Y++[((ins 12 0 0).1,([]:List Int))]++U).length=j:=⟨_,rfl⟩
 have hjm:j+1=m:=by have:=HI.out;rw [<-hj];simp at this ⊢;omega
 have LB:=h3.lay (ins 13 0 0).1 (by rw [hj];have:=HI.out;omega);rw [hj] at LB;have HJ:Hid ((Lc++Y++[((ins 12 0 0).1,([]:List Int))]++U).length=j/\j+1=m):=⟨hj,hjm⟩
 clear NB k1 h3 hj hjm;go_wp2_with (first | (refine zAQ rfl 13 rfl ?_))
 refine LB.mono ?_;rintro e w4 ⟨rfl,lv4,P4,h4⟩;have h5:=h4.below (Below.refl w4.heap.size w4).drew;obtain ⟨g,gc,u,cl,hgk,zz,c9,hi0,hi1,hset⟩:=h5.spot (X:=Lc++Y) (x:=ins 12 0 0) (R:=U++[ins 13 0 0]) (i:=i) (M:=m) (by simp [ins]) HI.out.1.symm (by have:=HJ.out;rw [List.length_append,this.1];exact this.2) (Or.inl rfl);obtain ⟨P5,h6⟩:=hset (m:Int) (ins 12 m 0).1 (λtv=>rfl);clear LB h4 h5 hset;go_upto_region 21 with fail
 refine wp_region_held_drew (S:=λW=>W.cell? ⟨k,3,none⟩=some (.slice (some ⟨g,0,none⟩) m gc)) (by kernel_rfl) cl (λhHeld=>?_);generalize w4.drew=WD at *;refine tkQ 0 ?_
 refine tkQ 1 ?_
 refine tkQ 2 ?_
 refine tkQ 3 ?_
 refine tkQ 4 ?_
 refine tkQ 5 ?_
 refine tkQ 6 ?_
 refine tkQ 7 ?_
 refine tkQ 8 ?_
 refine tkQ 9 ?_
 refine tkQ 10 ?_
 refine tkQ 11 ?_
 refine rdQ 12 (λK hK=>?_);go_simp
 refine hkQ hK (by rw [World.cell?_setCell_far _ _ _ _ (by simpa using hgk)];exact cl) (λhHeld=>?_);clear hK K
 refine wpAnyH_done (by kernel_rfl) ?_ _;clear hHeld;obtain ⟨W5,hW5⟩:∃ W,(WD.setCell ⟨g,i * 23+1,none⟩ (.int .i64 (m:Int)))=W:=⟨_,rfl⟩
 rw [hW5] at h6 ⊢;clear hW5 cl hgk zz c9 hi0 hi1;generalize hWD:WD=WDx at *;have H6:Hid (YSt L bb off cap own nm av2 cap2 k w0 lv0 W5 (Lc++Y++(ins 12 m 0)::(U++[ins 13 0 0])) lv4 P5 (.slice (some ⟨bk,ok,none⟩) nk capk) (q0::q1::qr)):=h6;clear h6;go_upto_if 122 with fail
 go_cut [] (λwx=>Hid (∃ lv6 P6,YSt L bb off cap own nm av2 cap2 k w0 lv0 wx (Lc++Y++(ins 12 m 0)::(U++(ins 13 0 0)::Z)) lv6 P6 (.slice (some ⟨bk,ok,none⟩) nk capk) (q0::q1::qr)))
 case first =>
  have hlen:(Lc++Y++(ins 12 m 0)::(U++[ins 13 0 0])).length=m:=by rw [List.length_append,HI.out.1,List.length_cons,List.length_append,List.length_cons,List.length_nil];have:=HI.out.2.1;omega
  have HLN:Hid ((Lc++Y++(ins 12 m 0)::(U++[ins 13 0 0])).length=m):=hlen;clear hlen;rcases HR.out with ⟨rfl,rfl⟩ | ⟨qc,tc,rfl,rfl,hs,hw⟩
  ·have hn3:¬ (nk:Int)=3:=by rw [<-HNK.out];simp
   have TR:=zGR false W5;clear HR;go_wp2_with fail
   refine TR.mono ?_;rintro e w6 ⟨rfl,hb6⟩;have LC:=(H6.out.below hb6).lay (zBU zHq).1 (by rw [HLN.out];have:=HI.out;omega);clear TR hb6;go_wp2_with (first | (refine zBN rfl (.tmp 129) rfl zHq rfl ?_))
   refine LC.mono ?_;rintro e w7 ⟨rfl,lv7,P7,h7⟩;have H7:Hid (∃ lv6 P6,YSt L bb off cap own nm av2 cap2 k w0 lv0 w7 (Lc++Y++(ins 12 m 0)::(U++(ins 13 0 0)::Z)) lv6 P6 (.slice (some ⟨bk,ok,none⟩) nk capk) (q0::q1::[])):=by
    have hz:=HZ.out;rw [<-hz];refine ⟨lv7,P7,?_⟩;have h8:=h7;simp only [List.append_assoc,List.cons_append,List.nil_append] at h8 ⊢;exact h8
   clear LC h7;go_wp2_with fail
   go_meet
   case rel=>exact H7
  ·have hn3:(nk:Int)=3:=by rw [<-HNK.out];simp
   have h6:=H6.out;have hz:=HZ.out;have hz2:cod own (nm.take 16) n tc m=Z:=by rw [<-hz];simp [zAR]
   have NC:=h6.node HIH.out hs hw (by rw [HLN.out,hz2];have:=HI.out;omega);rw [HLN.out,hz2] at NC;have k2:=h6.cellAt (j:=2) rfl;clear HR h6 hz hz2 hs hw;go_wp2_with fail
   refine NC.mono ?_;rintro e w7 ⟨rfl,lv7,P7,h7⟩;have H7:Hid (∃ lv6 P6,YSt L bb off cap own nm av2 cap2 k w0 lv0 w7 (Lc++Y++(ins 12 m 0)::(U++(ins 13 0 0)::Z)) lv6 P6 (.slice (some ⟨bk,ok,none⟩) nk capk) (q0::q1::[qc])):=by
    refine ⟨lv7,P7,?_⟩;have h8:=h7;simp only [List.append_assoc,List.cons_append,List.nil_append] at h8 ⊢;exact h8
   clear NC h7 k2;go_wp2_with fail
   go_meet
   case rel=>exact H7
 case rest =>
 generalize hwc:wc=w6 at *;clear hwc;obtain ⟨lv6,P6,h6⟩:=hcut.out;have hlen:(Lc++Y++(ins 12 m 0)::(U++(ins 13 0 0)::Z)).length=m+Z.length:=by rw [List.length_append,HI.out.1,List.length_cons,List.length_append,List.length_cons];have:=HI.out.2.1;omega
 have h7:=h6.below (Below.refl w6.heap.size w6).drew;obtain ⟨M,hM⟩:∃ M,m+Z.length=M:=⟨_,rfl⟩
 rw [hM] at hlen;obtain ⟨g,gc,u,cl,hgk,zz,c9,hi0,hi1,hset⟩:=h7.spot (X:=Lc++Y) (x:=ins 12 m 0) (R:=U++(ins 13 0 0)::Z) (i:=i) (M:=M) rfl HI.out.1.symm hlen (Or.inr rfl);obtain ⟨P8,h8⟩:=hset (M:Int) (ins 12 m M).1 (λtv=>rfl);have HM:Hid (m+Z.length=M):=hM;clear h6 h7 hset hcut hM hlen H6;go_upto_region 25 with fail
 refine wp_region_held_drew (S:=λW=>W.cell? ⟨k,3,none⟩=some (.slice (some ⟨g,0,none⟩) M gc)) (by kernel_rfl) cl (λhHeld=>?_);generalize w6.drew=WD at *;refine tkQ 0 ?_
 refine tkQ 1 ?_
 refine tkQ 2 ?_
 refine tkQ 3 ?_
 refine tkQ 4 ?_
 refine tkQ 5 ?_
 refine tkQ 6 ?_
 refine tkQ 7 ?_
 refine tkQ 8 ?_
 refine tkQ 9 ?_
 refine tkQ 10 ?_
 refine tkQ 11 ?_
 refine rdQ 12 (λK hK=>?_);go_simp
 refine hkQ hK (by rw [World.cell?_setCell_far _ _ _ _ (by simpa using hgk)];exact cl) (λhHeld=>?_);clear hK K
 refine wpAnyH_done (by kernel_rfl) ?_ _;clear hHeld;obtain ⟨W8,hW8⟩:∃ W,(WD.setCell ⟨g,i * 23+2,none⟩ (.int .i64 (M:Int)))=W:=⟨_,rfl⟩
 rw [hW8] at h8 ⊢;clear hW8 cl hgk zz c9 hi0 hi1;generalize WD=WDx at *;have hlen:(Lc++Y++(ins 12 m M)::(U++(ins 13 0 0)::Z)).length=M:=by rw [List.length_append,HI.out.1,List.length_cons,List.length_append,List.length_cons];have:=HI.out.2.1;have:=HM.out;omega
 have h9:=h8.below (Below.refl W8.heap.size W8).drew;obtain ⟨g,gc,u,cl,hgk,zz,c9,hi0,hi1,hset⟩:=h9.spot (X:=Lc++Y++(ins 12 m M)::U) (x:=ins 13 0 0) (R:=Z) (i:=j) (M:=M) (by simp [ins]) (by have:=HJ.out;rw [<-this.1];simp) hlen (Or.inl rfl);obtain ⟨P9,h10⟩:=hset (M:Int) (ins 13 M 0).1 (λtv=>rfl);clear h8 h9 hset hlen;go_upto_region 26 with fail
 refine wp_region_held_drew (S:=λW=>W.cell? ⟨k,3,none⟩=some (.slice (some ⟨g,0,none⟩) M gc)) (by kernel_rfl) cl (λhHeld=>?_);generalize W8.drew=WD at *;refine tkQ 0 ?_
 refine tkQ 1 ?_
 refine tkQ 2 ?_
 refine tkQ 3 ?_
 refine tkQ 4 ?_
 refine tkQ 5 ?_
 refine tkQ 6 ?_
 refine tkQ 7 ?_
 refine tkQ 8 ?_
 refine tkQ 9 ?_
 refine tkQ 10 ?_
 refine tkQ 11 ?_
 refine rdQ 12 (λK hK=>?_);go_simp
 refine hkQ hK (by rw [World.cell?_setCell_far _ _ _ _ (by simpa using hgk)];exact cl) (λhHeld=>?_);clear hK K
 refine wpAnyH_done (by kernel_rfl) ?_ _;clear hHeld;have HF:Hid (YSt L bb off cap own nm av2 cap2 k w0 lv0 (WD.setCell ⟨g,j * 23+1,none⟩ (.int .i64 (M:Int))) ((Lc++Y)++ins 12 m (m+Z.length:Nat)::(U++ins 13 (m+Z.length:Nat) 0::Z)) lv6 P9 (.slice (some ⟨bk,ok,none⟩) nk capk) (q0::q1::qr)):=by
  have hm:=HM.out;rw [hm];have h11:=h10;simp only [List.append_assoc,List.cons_append] at h11 ⊢;exact h11
 clear h10;go_wp2;go_end0
 exact ⟨rfl,_,_,HF.out⟩
end
open Go.RowKit Wf
section
open Tryz
variable {L:List Wt.Nd} {bb off cap:Nat} {own:Int} {nm:List ByteArray} {av2:Option Addr} {cap2 k:Nat} {w0:World} {lv0:Value} {w:World} {Lc:List I} {lv:Value} {P:List (Wc.In × Value)} {kv:Value} {n:Nat}
theorem zJg (ih:YNd L bb off cap own nm av2 cap2 n) {q0 q1:Nat} {ta tb:Tr n} (h:YSt L bb off cap own nm av2 cap2 k w0 lv0 w Lc lv P kv [q0,q1]) (s0:Sub L q0 n ta) (s1:Sub L q1 n tb) (f0:zAz n ta/\zBB own (nm.take 16) n ta=0) (f1:zAz n tb/\zBB own (nm.take 16) n tb=0) (a0:isA (Wf.hd n ta)=false) (a1:isA (Wf.hd n tb)=false) (hb:Lc.length+(zAr (cod own (nm.take 16) n) 31 [ta,tb] Lc.length).length<=800000) :
  Calls prog 91 #[.pointer (some ⟨k,0,none⟩),.int .i64 31,kv] w λe w'=>e=.returned (.tuple #[])/\∃ lv' P',YSt L bb off cap own nm av2 cap2 k w0 lv0 w' (Lc++zAr (cod own (nm.take 16) n) 31 [ta,tb] Lc.length) lv' P' kv [q0,q1]:=by
 obtain ⟨bk,ok,capk,rfl⟩:=h.kidv (by simp);obtain ⟨Y,hY⟩:∃ Y,cod own (nm.take 16) n ta Lc.length=Y:=⟨_,rfl⟩
 have hln1:(Lc++Y++[((ins 14 0 0).1,([]:List Int))]).length=Lc.length+Y.length+1:=by simp;omega
 obtain ⟨V,hV⟩:∃ V,cod own (nm.take 16) n tb (Lc.length+Y.length+1)=V:=⟨_,rfl⟩
 have hlz:zAr (cod own (nm.take 16) n) 31 [ta,tb] Lc.length=Y++ins 14 (Lc.length+Y.length+1+V.length:Nat) 0::V:=by
  simp [zAr,hY,hV]
 rw [hlz] at hb ⊢;have hbl:Lc.length+Y.length+V.length+1<=800000:=by simp at hb;omega
 have NA:=h.node ih s0 ⟨f0.1,f0.2,a0⟩ (by rw [hY];omega);rw [hY] at NA;have k0:=h.cellAt (j:=0) rfl;simp only [Nat.add_zero] at k0;have HV:Hid (cod own (nm.take 16) n tb (Lc++Y++[((ins 14 0 0).1,([]:List Int))]).length=V):=by show _=_;rw [hln1];exact hV
 have HBL:Hid (Lc.length+Y.length+V.length+1<=800000):=hbl;obtain ⟨i,hi⟩:∃ i,(Lc++Y).length=i:=⟨_,rfl⟩
 have HI:Hid ((Lc++Y).length=i):=hi;have HIH:Hid (YNd L bb off cap own nm av2 cap2 n):=ih;have HSB:Hid (Sub L q1 n tb/\Wr own (nm.take 16) n tb):=⟨s1,f1.1,f1.2,a1⟩
 clear hY hV hlz hb hbl h hln1 hi ih s0 s1 f0 f1 a0 a1;go_enter func91,ntmps91;go_wp2_with fail
 refine NA.mono ?_;rintro e w1 ⟨rfl,lv1,P1,h1⟩;have LA:=h1.lay (ins 14 0 0).1 (by have:=HBL.out;rw [List.length_append];omega);rw [HI.out] at LA;clear NA k0 h1;go_wp2_with (first | (refine zAQ rfl 14 rfl ?_))
 refine LA.mono ?_;rintro e w2 ⟨rfl,lv2,P2,h2⟩;have NB:=h2.node HIH.out HSB.out.1 HSB.out.2 (by rw [HV.out];have:=HBL.out;simp;omega);rw [HV.out] at NB;have k1:=h2.cellAt (j:=1) rfl;clear LA h2;go_wp2_with fail
 refine NB.mono ?_;rintro e w3 ⟨rfl,lv3,P3,h3⟩;clear NB k1;have hi:=HI.out;obtain ⟨M,hM⟩:∃ M,(Lc++Y++[((ins 14 0 0).1,([]:List Int))]++V).length=M:=⟨_,rfl⟩
 have hML:M=i+1+V.length:=by rw [<-hM,<-hi];simp;omega
 have hiM:i<(Lc++Y++[((ins 14 0 0).1,([]:List Int))]++V).length:=by rw [hM];omega
 have rb:=(Below.refl w3.heap.size w3).drew;have h4:=h3.below rb;obtain ⟨g,gc,hlv,cl,hgk⟩:=h4.list (by rw [hM];omega);have cc:World.ownsRow w3.drew (k+1) 56 23 (.slice (some ⟨g,0,none⟩) P3.length gc) P3.length (zAc P3):=by
  have h9:=h4.ys.own;rw [hlv,<-h4.ys.len] at h9;exact h9
 have zz:=cc.frozenAt (i * 23+1);have hPi:i<P3.length:=by rw [h4.ys.len];exact hiM
 have c9:=cc.cellAt (i * 23+1) (by omega);rw [zBG P3 i hPi 1 (.int .i64 (P3[i]).1.a) rfl] at c9;have hget:(Lc++Y++[((ins 14 0 0).1,([]:List Int))]++V)[i]'hiM=ins 14 0 0:=by
  have h1:(Lc++Y++[((ins 14 0 0).1,([]:List Int))]++V)[i]? = some (ins 14 0 0):=by
   rw [List.append_assoc,List.getElem?_append_right (by omega)];simp [hi,ins]
  exact (List.getElem?_eq_some_iff.1 h1).2
 obtain ⟨u,hu⟩:∃ u,(P3[i]'hPi).1.a=u:=⟨_,rfl⟩
 rw [hu] at c9;have h5:=h4.patch (j:=1) hlv hiM (by omega) (M:Int) (ins 14 M 0).1 (λtv=>by rw [hget];rfl);have HX:Hid ((Lc++Y++[((ins 14 0 0).1,([]:List Int))]++V).set i ((ins 14 M 0).1,((Lc++Y++[((ins 14 0 0).1,([]:List Int))]++V)[i]'hiM).2)=Lc++(Y++ins 14 (Lc.length+Y.length+1+V.length:Nat) 0::V)):=by
  show _=_
  rw [hget,List.append_assoc,List.set_append_right _ _ (by omega)];have hM2:M=Lc.length+Y.length+1+V.length:=by rw [hML,<-hi];simp
  simp [hi,ins,hM2]
 rw [HX.out] at h5;rw [hM] at hlv cl;clear cc hlv HX h3 hM hget hu;clear hi;have hi0:(0:Int)<=(i:Int):=by omega
 have hi1:(i:Int)<(M:Int):=by omega
 clear hML;go_upto_region 30 with fail
 refine wp_region_held_drew (S:=λW=>W.cell? ⟨k,3,none⟩=some (.slice (some ⟨g,0,none⟩) M gc)) (by kernel_rfl) cl (λhHeld=>?_);generalize w3.drew=WD at *;refine tkQ 0 ?_
 refine tkQ 1 ?_
 refine tkQ 2 ?_
 refine tkQ 3 ?_
 refine tkQ 4 ?_
 refine tkQ 5 ?_
 refine tkQ 6 ?_
 refine tkQ 7 ?_
 refine tkQ 8 ?_
 refine tkQ 9 ?_
 refine tkQ 10 ?_
 refine tkQ 11 ?_
 refine rdQ 12 (λK hK=>?_);go_simp
 refine hkQ hK (by rw [World.cell?_setCell_far _ _ _ _ (by simpa using hgk)];exact cl) (λhHeld=>?_);clear hK K
 refine wpAnyH_done (by kernel_rfl) ?_ _;clear hHeld;go_wp2;go_end0
 exact ⟨rfl,_,_,h5⟩
end
open Go.RowKit Wf
def PdL (k:Nat) (w:World) (lv:Value) (es:List (Nat × Nat)) (cs:List (Nat × Nat × Nat)):Prop:=es.length=cs.length/\∀ j (h:j<es.length) (h':j<cs.length),Pd k w lv (es[j]).1 (es[j]).2 (cs[j]).1 (cs[j]).2.1 (cs[j]).2.2
def zGr (cs:List (Nat × Nat × Nat)):List Nat:=cs.flatMap λc=>[c.1,c.2.1,c.2.2]
theorem PdL.mapP {lv':Value} (h:PdL k w lv es cs) (hm:∀ f a b1 b2 b3,(b1,b2,b3) ∈ cs->Pd k w lv f a b1 b2 b3->Pd k w' lv' f a b1 b2 b3):PdL k w' lv' es cs:=⟨h.1,λj h1 h2=>hm _ _ _ _ _ (List.getElem_mem h2) (h.2 j h1 h2)⟩
theorem PdL.snoc (h:PdL k w lv es cs) {q:Nat × Nat} {c:Nat × Nat × Nat} (hp:Pd k w lv q.1 q.2 c.1 c.2.1 c.2.2):PdL k w lv (es++[q]) (cs++[c]):=by
 refine ⟨by simp [h.1],λj h1 h2=>?_⟩;by_cases hj:j<es.length
 ·rw [List.getElem_append_left hj,List.getElem_append_left (by rw [<-h.1];exact hj)];exact h.2 j hj _
 ·have e:j=es.length:=by simp at h1;omega
  subst e;have e1:(es++[q])[es.length]=q:=by simp
  have e2:(cs++[c])[es.length]=c:=by simp [h.1]
  rw [e1,e2];exact hp
theorem zKc {tv:Value} {t0:Int} {tl:List Int} (h:OwnZ w B tv (t0::tl)) {b:Nat} {u:Value} (hc:w.cell? ⟨b,0,none⟩=some u) (hu:u ≠ .int .i64 t0):¬ tv.ownBlock=some b:=λe=>by
 have:=h.cells e 0 (.int .i64 t0) rfl;have e0:(⟨b,0,none⟩:Addr).add 0=⟨b,0,none⟩:=rfl;rw [e0,hc] at this;exact hu (by simpa using this)
theorem Pd.ne_to {f a b1 b2 b3:Nat} (h:Pd k w lv f a b1 b2 b3) {B:Nat} {tv:Value} {t0:Int} {tl:List Int} (ho:OwnZ w B tv (t0::tl)) (ha:t0 ≠ (a:Int)):∀ b ∈ [b1,b2,b3],¬ tv.ownBlock=some b:=λb hb=>by
 simp at hb;rcases hb with rfl | rfl | rfl
 ·exact zKc ho h.c1 (by simp)
 ·exact zKc ho h.c2 (by simp)
 ·exact zKc ho h.c3 (by simpa using λe=>ha e.symm)
theorem zNI (k B:Nat) (T:Nat->Nat) (x:Wc.In) (s0 s1:Value) (L:List I) (lv:Value) (P:List (Wc.In × Value)) (w:World) (h:WS k B T w s0 s1 L lv P) (hkB:k<B) (hB:B<=w.heap.size) (hl:L.length<=1000000) :
  Calls prog 28 #[.pointer (some ⟨k,0,none⟩),.agg (zAD x zAH).toArray] w λe w'=>(∃ lv' P',e=.returned (.tuple #[])/\WS k B T w' s0 s1 (L++[(x,[])]) lv' P'/\Nx w lv lv'/\∀ h:L.length<P'.length,(P'[L.length]).2=zAH)/\Fr (k::lv.ownBlock.toList) w w':=by
 have h1:=zJL k B x s0 s1 lv P w h.at' h.own hkB hB (by rw [h.len];exact hl);have h2:=zAp k B T x s0 s1 L lv P w h hkB hB hl;refine h1.mono ?_;rintro e w' ⟨⟨lv',rfl,ha,ho,hn⟩,hf⟩;have hws:WS k B T w' s0 s1 (L++[(x,[])]) lv' (P++[(x,zAH)]):=by
  refine ⟨ha,ho,by simp [h.len],λi h1 h2=>?_,h.tb,λi j h1 h2 b e1 e2=>?_⟩
  ·by_cases hi:i<P.length
   ·have hi2:i<L.length:=by rw [<-h.len];exact hi
    rw [List.getElem_append_left hi,List.getElem_append_left hi2];refine ⟨(h.ins i hi hi2).1,zAW hf (h.ins i hi hi2).2 (λb e hm=>?_)⟩;rcases List.mem_cons.1 hm with q | q
    ·have:=(zAK (h.ins i hi hi2).2 e).1;have:=h.tb i;omega
    ·exact zAi (h.ins i hi hi2).2 h.own (by decide) e (by simpa using q)
   ·have e1:i=P.length:=by simp at h1;omega
    subst e1;have e2:(P++[(x,zAH)])[P.length]=(x,zAH):=by simp
    have e3:(L++[(x,([]:List Int))])[P.length]=(x,[]):=by simp [h.len]
    rw [e2,e3];exact ⟨rfl,OwnZ.nil _ _⟩
  ·have hx:∀ i (h1:i<(P++[(x,zAH)]).length),((P++[(x,zAH)])[i]).2.ownBlock=some b->i<P.length:=λi h1 e=>by
    rcases Nat.lt_or_ge i P.length with q | q
    ·exact q
    ·have e0:i=P.length:=by simp at h1;omega
     subst e0;have e2:(P++[(x,zAH)])[P.length]=(x,zAH):=by simp
     rw [e2] at e;cases e
   have a1:=hx i h1 e1;have a2:=hx j h2 e2;rw [List.getElem_append_left a1] at e1;rw [List.getElem_append_left a2] at e2;exact h.dis i j a1 a2 b e1 e2
 exact ⟨⟨lv',P++[(x,zAH)],rfl,hws,hn,λ_=>by simp [<-h.len]⟩,hf⟩
theorem St.other {own:Int} {nm:List ByteArray} {av2:Option Addr} {m2 cap2 hi:Nat} {T:Nat->Nat} {w0:World} {lv0:Value} {L:List I} {P:List (Wc.In × Value)} (h:St own nm av2 m2 cap2 k B T hi w0 lv0 w L lv P) {S:List Nat} (f:Fr S w w') (hs:∀ j ∈ S,w0.heap.size<=j/\k<j) (hl:∀ j,lv.ownBlock=some j->j ∉ S) (ht:∀ i (h:i<P.length) b,(P[i]).2.ownBlock=some b->b ∉ S):St own nm av2 m2 cap2 k B T hi w0 lv0 w' L lv P :=
 ⟨h.en.fr f (λj hj=>Nat.le_of_lt (hs j hj).2),h.ws.fr f (λhm=>by have:=(hs k hm).2;omega) hl ht,h.nx,h.fr.new f (λj hj=>Or.inr (hs j hj).1)⟩
abbrev C0:Wc.In:=⟨15,0,0,v0I,c0I,a0I,a0I⟩
structure ChS (own:Int) (nm:List ByteArray) (av2:Option Addr) (m2 cap2 k B:Nat) (T:Nat->Nat) (hi n:Nat) (w:World) (lv:Value) (L:List I) (ks:List (Tr n)) (b1 b2 b3 i:Nat) (wr:World) (ev lvi:Value) (Pi:List (Wc.In × Value)) (cs:List (Nat × Nat × Nat)):Prop where
 st:St own nm av2 m2 cap2 k B T hi w lv wr (L++(C0,toC (cod own nm n) (ks.take i) (L.length+1))::zAO (cod own nm n) 0 (ks.take i) (L.length+1)) lvi Pi
 oc:OwnC wr B ev cs
 pb:Pd k wr lvi 161 L.length b1 b2 b3
 pl:PdL k wr lvi ((158,L.length)::(jx (cod own nm n) (ks.take i) (L.length+1)).map (λp=>(157,p))) cs
 ne:∀ b ∈ [b1,b2,b3]++zGr cs,¬ ev.ownBlock=some b
 eb:∀ j,ev.ownBlock=some j->w.heap.size<=j
 nl:i=0->∀ h:L.length<Pi.length,(Pi[L.length]).2=zAH
section
variable {own:Int} {nm:List ByteArray} {av2:Option Addr} {m2 cap2 k B hi n:Nat} {T:Nat->Nat} {w:World} {lv:Value} {L:List I} {ks:List (Tr n)} {b1 b2 b3 i:Nat} {wr:World} {ev lvi:Value} {Pi:List (Wc.In × Value)} {cs:List (Nat × Nat × Nat)}
theorem zLF {cs:List (Nat × Nat × Nat)} {c1 c2 c3 b:Nat} (h:(c1,c2,c3) ∈ cs) (hb:b ∈ [c1,c2,c3]):b ∈ zGr cs:=List.mem_flatMap.2 ⟨(c1,c2,c3),h,hb⟩
theorem ChS.below {w':World} (h:ChS own nm av2 m2 cap2 k B T hi n w lv L ks b1 b2 b3 i wr ev lvi Pi cs) (hb:Below wr.heap.size wr w'):ChS own nm av2 m2 cap2 k B T hi n w lv L ks b1 b2 b3 i w' ev lvi Pi cs :=
 ⟨h.st.below hb,zAW (Fr.of_below [] hb) h.oc (by simp),h.pb.below hb,h.pl.mapP (λf a c1 c2 c3 _ p=>p.below hb),h.ne,h.eb,h.nl⟩
theorem zEc {w':World} (oc:OwnC wr B ev cs) (ws:WS k B T wr (.int .i64 own) (.slice av2 m2 cap2) L lvi Pi) (hkB:k<B) (f:Fr (k::lvi.ownBlock.toList) wr w'):OwnC w' B ev cs :=
 zAW f oc (λj e hm=>by
  rcases List.mem_cons.1 hm with q | q
  ·have:=(zAK oc e).1;omega
  ·exact zAi oc ws.own (by decide) e (by simpa using q))
end
theorem zFf (own:Int) (nm:List ByteArray) (av2:Option Addr) (m2 cap2 k B:Nat) (T:Nat->Nat) (hi:Nat) (w:World) (lv:Value) (L Y:List I) (tl:List Int) (b1 b2 b3:Nat) (wr:World) (ev lvi:Value) (Pi:List (Wc.In × Value)) (es:List (Nat × Nat)) (cs:List (Nat × Nat × Nat))
  (st:St own nm av2 m2 cap2 k B T hi w lv wr (L++(C0,tl)::Y) lvi Pi) (oc:OwnC wr B ev cs) (pb:Pd k wr lvi 161 L.length b1 b2 b3) (pl:PdL k wr lvi es cs) (ne:∀ b ∈ [b1,b2,b3]++zGr cs,¬ ev.ownBlock=some b) (hl:(L++(C0,tl)::Y).length<=900000) (htl:tl.length<=1000)
  (hto:(tl=[]/\∀ h:L.length<Pi.length,(Pi[L.length]).2=zAH) \/ ∃ r,tl=((L.length+1:Nat):Int)::r) (hes:∀ q ∈ es,q.2 ≠ L.length+1) (hTw:w.heap.size<=T L.length) :
  Calls prog 174 #[.pointer (some ⟨b1,0,none⟩),.pointer (some ⟨b2,0,none⟩),.pointer (some ⟨b3,0,none⟩)] wr λe w'=>(∃ P',e=.returned (.tuple #[])/\St own nm av2 m2 cap2 k B T hi w lv w' (L++(C0,tl++[((L++(C0,tl)::Y).length:Int)])::Y) lvi P'/\OwnC w' B ev cs/\Pd k w' lvi 161 L.length b1 b2 b3/\PdL k w' lvi es cs)/\Fr (lvi.ownBlock.toList++(Pi[L.length]'(by rw [st.ws.len];simp)).2.ownBlock.toList) wr w':=by
 have hat:L.length<(L++(C0,tl)::Y).length:=by simp
 have hatP:L.length<Pi.length:=by rw [st.ws.len];exact hat
 have hx:(L++(C0,tl)::Y)[L.length]=(C0,tl):=by simp
 have hz:=(st.ws.ins L.length hatP hat).2;rw [hx] at hz;have hne:∀ (f a c1 c2 c3:Nat),Pd k wr lvi f a c1 c2 c3->a ≠ L.length+1->∀ b ∈ [c1,c2,c3],b ∉ lvi.ownBlock.toList++(Pi[L.length]).2.ownBlock.toList:=λf a c1 c2 c3 p ha b hb hm=>by
  rcases List.mem_append.1 hm with q | q
  ·exact (p.bd b hb).2.2 (by simpa using q)
  ·have q2:(Pi[L.length]).2.ownBlock=some b:=by simpa using q
   rcases hto with ⟨_,h0⟩ | ⟨r,h0⟩
   ·rw [h0 hatP] at q2;cases q2
   ·rw [h0] at hz;exact p.ne_to hz (by omega) b hb q2
 have hT:=zMn k B T _ _ _ lvi Pi wr L.length b1 b2 b3 st.ws st.en.kB (st.en.tl _) (by omega) hat hatP (by rw [hx];simp only;omega) pb.c1 pb.c2 pb.c3 (hne _ _ _ _ _ pb (by omega));refine hT.mono ?_;rintro e w' ⟨⟨tv',rfl,ws',nx'⟩,fr'⟩;rw [hx,zAm L _ _ Y L.length rfl] at ws';have hge:∀ j ∈ lvi.ownBlock.toList++(Pi[L.length]).2.ownBlock.toList,B<=j:=λj hj=>by
  rcases List.mem_append.1 hj with q | q
  ·exact (zAK st.ws.own (show lvi.ownBlock=some j by simpa using q)).1
  ·have:=(zAK hz (show (Pi[L.length]).2.ownBlock=some j by simpa using q)).1;have:=st.ws.tb L.length;omega
 have hpd:∀ (f a c1 c2 c3:Nat),Pd k wr lvi f a c1 c2 c3->a ≠ L.length+1->Pd k w' lvi f a c1 c2 c3:=λf a c1 c2 c3 p ha=>p.fr fr' (hne f a c1 c2 c3 p ha) (λb hb=>(p.bd b hb).2.2)
 refine ⟨⟨_,rfl,⟨st.en.fr fr' (λj hj=>by have:=hge j hj;have:=st.en.kB;omega),ws',st.nx,?_⟩,zAW fr' oc (λj e hm=>?_),hpd _ _ _ _ _ pb (by omega),?_⟩,fr'⟩
 ·refine st.fr.new fr' (λj hj=>?_);rcases List.mem_append.1 hj with q | q
  ·rcases st.nx j (by simpa using q) with r | r
   ·exact Or.inl (List.mem_cons_of_mem _ (by simp [r]))
   ·exact Or.inr r
  ·exact Or.inr (Nat.le_trans hTw (zAK hz (show (Pi[L.length]).2.ownBlock=some j by simpa using q)).1)
 ·rcases List.mem_append.1 hm with q | q
  ·exact zAi oc st.ws.own (by decide) e (by simpa using q)
  ·exact zAi oc hz (by decide) e (by simpa using q)
 ·refine ⟨pl.1,λj h1 h2=>hpd _ _ _ _ _ (pl.2 j h1 h2) (hes _ (List.getElem_mem h1))⟩
