/- MRefB, PlainV, TPr, WalkDg, WalkDc. -/
import Derived.Test.YtdghjlmnlodnlaaGreatDoorQ24
import Derived.Lib.Builder
import Derived.Laws.Externs
import Derived.BigCall
set_option maxHeartbeats 8000000
set_option maxRecDepth 100000
set_option linter.unusedVariables false
namespace Go.Proofs.YtdghjlmnlodnlaaGreatDoor
open Tryz
open Go.RowKit Go.Shelf
theorem zJv (av:Option Addr) (cap:Nat) (L:List Wt.Nd) (x y:Int) (w:World) (hF:∀ n ∈ L,Wt.FitN n) (hr:RdN w av L) (hc:Wt.check L=0) (hx:-9223372036854775808<=x/\x<=9223372036854775807) (hy:-9223372036854775808<=y/\y<=9223372036854775807) :
  Calls prog 7 #[.slice av L.length cap,.int .i64 x,.int .i64 y] w λe w'=>(∃ v,e=.returned (.tuple #[v,.int .i64 0])/\OwnN w' w.heap.size v (L.map (mvN x y)))/\Below w.heap.size w w':=by
 obtain ⟨h256,d,hone,-⟩:=zA8 hc;have hpos:0<L.length:=by have:=zCP _ _ _ _ hone;omega
 obtain ⟨bb,off,rfl,-⟩:=hr 0 hpos;have CK:=zCt (some ⟨bb,off,none⟩) cap L w (by omega) hF hr;rw [hc] at CK;have HR:Hid (RdN w (some ⟨bb,off,none⟩) L):=hr;have HRT:Hid (∀ i (hi:i<L.length),Wt.right L[i]=true):=zCR hc;have H256:True->L.length<=256:=λ_=>h256
 have HX:Hid (∀ (a:Wt.Rf) (w:World),Wt.rfOk a=true->CR 17 #[.agg (rf5 a).toArray,.int .i64 x,.int .i64 y] w (.tuple #[.agg (rf5 (zFz x y a)).toArray,.bool (zOe x y a)])):=λa w h=>zLz x y a w h hx hy
 clear hone hc hF hr h256 hx hy;go_enter func7,ntmps7;go_wp2_with fail
 refine CK.mono ?_;rintro e w1 ⟨rfl,hb1⟩;have pZ:AtL (w1.alloc (.cells zC 30)) w1.heap.size (zAD zHt):=AtL.new0 w1 _ _;have tZ:(w1.alloc (.cells zC 30)).there w1.heap.size 0 (zAD zA0).toArray.size:=pZ.there;have pL:AtL ((w1.alloc (.cells zC 30)).setCells w1.heap.size 0 (zAD zA0)) w1.heap.size (zAD zA0):=pZ.setAll rfl;have hbl:Below w1.heap.size w1 ((w1.alloc (.cells zC 30)).setCells w1.heap.size 0 (zAD zA0)):=zAu (zAI (Below.refl _ w1) _) (Nat.le_refl _) _ 0;have hB2:=zAA hb1 hbl;clear pZ CK;go_upto_region 5 with (first
  | (with_reducible refine wpList_blost (by rfl) (.const (.int .i64 1)) (.tmp 20) (by rfl) (by rfl) (by rfl) ?_)
  | ((with_reducible refine wpList_store_mid ?_ 30 (.tmp 9) (.tmp 21) ?_ (w1.heap.size) 0 (zAD zA0).toArray ?_ ?_ ?_ ?_ ?_ ?_);rfl;rfl;rfl;rfl;exact tZ;kernel_rfl;exact zAc _))
 generalize (w1.alloc (.cells zC 30)).setCells w1.heap.size 0 (zAD zA0).toArray.toList=W2 at *;obtain ⟨kl,hkl⟩:∃ kl,w1.heap.size=kl:=⟨_,rfl⟩
 rw [hkl] at pL ⊢;clear tZ hbl hb1 hkl;have HL0:Hid (AtL W2 kl (zAD zA0)):=pL;have HR2:Hid (RdN W2 (some ⟨bb,off,none⟩) L):=HR.out.below hB2;clear pL HR;go_wp2_with fail
 go_loopg [10,11] (L.length) (λgk a b wr=>∃ i:Nat,b=.int .i64 i/\gk=L.length - i/\i<=L.length/\Hid (OwnN wr W2.heap.size a ((L.take i).map (mvN x y)))/\Below W2.heap.size W2 wr)
 case atStart=>exact ⟨0,rfl,rfl,Nat.zero_le _,World.ownsRow_nil _ _ _ _,Below.refl _ _⟩
 case round =>
  obtain ⟨i,rfl,hg,hi,HO,hB⟩:=hrel;by_cases hlt:i<L.length
  ·have hli:(i:Int)<(L.length:Int):=by omega
   have hx0:=(HR2.out.below hB).at i hlt;have hrt:=HRT.out i hlt;have HTK:Hid ((L.take (i+1)).map (mvN x y)=(L.take i).map (mvN x y)++[mvN x y L[i]]):=by show _=_;rw [List.take_succ_eq_append_getElem hlt,List.map_append];rfl
   generalize L[i]=q at *;have HAL:True->((L.take i).map (mvN x y)).length+1<=799644820179:=λ_=>by have:=H256 trivial;simp;omega
   generalize (L.take i).map (mvN x y)=A at *;have hi256:(i:Int)<=256:=by have:=H256 trivial;omega
   have pZ:AtL (wr.alloc (.cells zC 30)) wr.heap.size (zAD zHt):=AtL.new0 wr _ _;have tZ:(wr.alloc (.cells zC 30)).there wr.heap.size 0 (zAD q).toArray.size:=pZ.there;have pN:AtL ((wr.alloc (.cells zC 30)).setCells wr.heap.size 0 (zAD q)) wr.heap.size (zAD q):=pZ.setAll rfl;have hbr:Below wr.heap.size wr ((wr.alloc (.cells zC 30)).setCells wr.heap.size 0 (zAD q)):=zAu (zAI (Below.refl _ wr) _) (Nat.le_refl _) _ 0;clear pZ HR2 HRT;obtain ⟨n2,hn2⟩:∃ n2,mvN x y q=n2:=⟨_,rfl⟩
   rw [hn2] at HTK;have HN2:Hid (mvN x y q=n2):=hn2;clear hn2;by_cases hk2:q.k=2
   ·have hk:=hk2;have hA:=(zCj hrt hk2).1;have E1:=zFB (x:=x) (y:=y) hA;cases hq:okR x y q.a with
    | true =>
     have HM:Hid ((⟨q.k,q.v,q.op,q.nm,q.ar,zFz x y q.a,q.b⟩:Wt.Nd)=n2):=by show _=_;rw [<-HN2.out,zGr hA hq];unfold mvN;rw [if_pos hk2,hq];rfl
     rw [hq] at E1;go_upto_region 12 with (first
      | ((with_reducible refine wpList_load_mid (cs:=zAD q) ?_ 30 (.tmp 30) ?_ (bb) (off+i * 20) ?_ _ ?_ underlying30 ?_ ?_ ?_);rfl;rfl;rfl;exact hx0;rfl;kernel_rfl)
      | ((with_reducible refine wpList_store_mid ?_ 30 (.tmp 12) (.tmp 31) ?_ (wr.heap.size) 0 (zAD q).toArray ?_ ?_ ?_ ?_ ?_ ?_);rfl;rfl;rfl;rfl;exact tZ;kernel_rfl;exact zAc _))
     generalize (wr.alloc (.cells zC 30)).setCells wr.heap.size 0 (zAD q).toArray.toList=W3 at *;clear tZ hx0;have n0:W3.cell? ⟨wr.heap.size,0,none⟩=some (.int .i64 2):=by first | exact pN.2.1 0 _ rfl | (rw [<-hk];exact pN.2.1 0 _ rfl)
     go_upto_region 13 with fail
     have rA:=zI7 pN;go_wp2_with ((with_reducible refine wpList_load_mid (cs:=rf5 q.a) ?_ 28 (.tmp 41) ?_ (wr.heap.size) 10 ?_ _ ?_ underlying28 ?_ ?_ ?_);rfl;rfl;rfl;exact rA;rfl;kernel_rfl)
     have CX:=λw=>HX.out q.a w hA
     rw [E1] at CX;refine (CX _).mono ?_;rintro e vW4 ⟨rfl,hb⟩;replace hbr:=zAA hbr hb
     replace pN:=AtL.below hb pN
     generalize zFz x y q.a=a2 at *;have sT:vW4.there wr.heap.size 10 (rf5 a2).toArray.size:=pN.thereSub 10 5 (by show 10+5<=20;omega);replace pN:=zBm pN a2
     replace hbr:=zAu hbr (Nat.le_refl _) (rf5 a2) 10
     clear hb rA CX E1;go_upto_region 14 with ((with_reducible refine wpList_store_mid ?_ 28 (.tmp 48) (.tmp 46) ?_ (wr.heap.size) 10 (rf5 a2).toArray ?_ ?_ ?_ ?_ ?_ ?_);rfl;rfl;rfl;rfl;exact sT;kernel_rfl;exact zDH _)
     generalize vW4.setCells wr.heap.size 10 (rf5 a2).toArray.toList=W4 at *;clear sT;rw [HM.out] at pN;have n2k:n2.k=2:=by rw [<-HM.out];exact hk2
     have n0':W4.cell? ⟨wr.heap.size,0,none⟩=some (.int .i64 2):=by rw [<-n2k];exact pN.2.1 0 _ rfl
     clear n0;go_upto_region 18 with fail
     clear n0';have rN:=AtL.range pN;have own:=HO.out.below hbr;have hBW:=zAA hB hbr;clear pN HO hbr hB;go_wp2_with (first
      | ((with_reducible refine wpList_load_mid (cs:=zAD n2) ?_ 30 (.tmp 12) ?_ (wr.heap.size) 0 ?_ _ ?_ underlying30 ?_ ?_ ?_);rfl;rfl;rfl;exact rN;rfl;kernel_rfl)
      | ((with_reducible refine zAR ?_ (.tmp 69) ?_ n2 ?_ ?_);rfl;rfl;rfl)
      | (at_builtin;refine zBA (by rfl) (.tmp 68) (.tmp 70) (by rfl) W2 (W4.alloc (.cells (zAD n2).toArray 30)) (zAI hBW _) _ A (by rfl) (own.below ((Below.refl _ _).alloc (Nat.le_refl _) _)) (some ⟨W4.heap.size,0,none⟩) [n2] 1 (by rfl) (zAf W4 n2).rd Nat.one_pos HAL ?_))
     intro v9 w9 own9 hb9;have HO9:Hid (OwnN w9 W2.heap.size v9 ((L.take (i+1)).map (mvN x y))):=by show OwnN _ _ _ _;rw [HTK.out];exact own9
     clear own9 own;go_wp2_with fail
     go_roundg (L.length - (i+1))
     case rel=>exact ⟨i+1,by simp,rfl,hlt,HO9,hb9⟩
     case measure=>omega
    | false =>
     have HM:Hid (zA0=n2):=by show _=_;rw [<-HN2.out];unfold mvN;rw [if_pos hk2,hq];rfl
     rw [hq] at E1;go_upto_region 12 with (first
      | ((with_reducible refine wpList_load_mid (cs:=zAD q) ?_ 30 (.tmp 30) ?_ (bb) (off+i * 20) ?_ _ ?_ underlying30 ?_ ?_ ?_);rfl;rfl;rfl;exact hx0;rfl;kernel_rfl)
      | ((with_reducible refine wpList_store_mid ?_ 30 (.tmp 12) (.tmp 31) ?_ (wr.heap.size) 0 (zAD q).toArray ?_ ?_ ?_ ?_ ?_ ?_);rfl;rfl;rfl;rfl;exact tZ;kernel_rfl;exact zAc _))
     generalize (wr.alloc (.cells zC 30)).setCells wr.heap.size 0 (zAD q).toArray.toList=W3 at *;clear tZ hx0;have n0:W3.cell? ⟨wr.heap.size,0,none⟩=some (.int .i64 2):=by first | exact pN.2.1 0 _ rfl | (rw [<-hk];exact pN.2.1 0 _ rfl)
     go_upto_region 13 with fail
     have rA:=zI7 pN;go_wp2_with ((with_reducible refine wpList_load_mid (cs:=rf5 q.a) ?_ 28 (.tmp 41) ?_ (wr.heap.size) 10 ?_ _ ?_ underlying28 ?_ ?_ ?_);rfl;rfl;rfl;exact rA;rfl;kernel_rfl)
     have CX:=λw=>HX.out q.a w hA
     rw [E1] at CX;refine (CX _).mono ?_;rintro e vW4 ⟨rfl,hb⟩;replace hbr:=zAA hbr hb
     replace pN:=AtL.below hb pN
     generalize zFz x y q.a=a2 at *;have sT:vW4.there wr.heap.size 10 (rf5 a2).toArray.size:=pN.thereSub 10 5 (by show 10+5<=20;omega);replace pN:=zBm pN a2
     replace hbr:=zAu hbr (Nat.le_refl _) (rf5 a2) 10
     clear hb rA CX E1;go_upto_region 14 with ((with_reducible refine wpList_store_mid ?_ 28 (.tmp 48) (.tmp 46) ?_ (wr.heap.size) 10 (rf5 a2).toArray ?_ ?_ ?_ ?_ ?_ ?_);rfl;rfl;rfl;rfl;exact sT;kernel_rfl;exact zDH _)
     generalize vW4.setCells wr.heap.size 10 (rf5 a2).toArray.toList=W4 at *;clear sT;have n0':W4.cell? ⟨wr.heap.size,0,none⟩=some (.int .i64 2):=by rw [<-hk2];exact pN.2.1 0 _ rfl
     clear n0;have pLL:=HL0.out.below (zAA hB hbr);have rL:=AtL.range pLL;have tN:W4.there wr.heap.size 0 (zAD zA0).toArray.size:=pN.there;replace pN:=pN.setAll (vs:=zAD zA0) rfl
     replace hbr:=zAu hbr (Nat.le_refl _) (zAD zA0) 0
     go_upto_region 18 with (first
      | ((with_reducible refine wpList_load_mid (cs:=zAD zA0) ?_ 30 (.tmp 9) ?_ (kl) 0 ?_ _ ?_ underlying30 ?_ ?_ ?_);rfl;rfl;rfl;exact rL;rfl;kernel_rfl)
      | ((with_reducible refine wpList_store_mid ?_ 30 (.tmp 12) (.tmp 67) ?_ (wr.heap.size) 0 (zAD zA0).toArray ?_ ?_ ?_ ?_ ?_ ?_);rfl;rfl;rfl;rfl;exact tN;kernel_rfl;exact zAc _))
     generalize W4.setCells wr.heap.size 0 (zAD zA0).toArray.toList=W6 at *;clear tN rL pLL;rw [HM.out] at pN;clear n0';have rN:=AtL.range pN;have own:=HO.out.below hbr;have hBW:=zAA hB hbr;clear pN HO hbr hB;go_wp2_with (first
      | ((with_reducible refine wpList_load_mid (cs:=zAD n2) ?_ 30 (.tmp 12) ?_ (wr.heap.size) 0 ?_ _ ?_ underlying30 ?_ ?_ ?_);rfl;rfl;rfl;exact rN;rfl;kernel_rfl)
      | ((with_reducible refine zAR ?_ (.tmp 69) ?_ n2 ?_ ?_);rfl;rfl;rfl)
      | (at_builtin;refine zBA (by rfl) (.tmp 68) (.tmp 70) (by rfl) W2 (W6.alloc (.cells (zAD n2).toArray 30)) (zAI hBW _) _ A (by rfl) (own.below ((Below.refl _ _).alloc (Nat.le_refl _) _)) (some ⟨W6.heap.size,0,none⟩) [n2] 1 (by rfl) (zAf W6 n2).rd Nat.one_pos HAL ?_))
     intro v9 w9 own9 hb9;have HO9:Hid (OwnN w9 W2.heap.size v9 ((L.take (i+1)).map (mvN x y))):=by show OwnN _ _ _ _;rw [HTK.out];exact own9
     clear own9 own;go_wp2_with fail
     go_roundg (L.length - (i+1))
     case rel=>exact ⟨i+1,by simp,rfl,hlt,HO9,hb9⟩
     case measure=>omega
   by_cases hk3:q.k=3
   ·have hk:=hk3;obtain ⟨hA,hBk,-⟩:=zCk hrt hk3;have E1:=zFB (x:=x) (y:=y) hA;have E2:=zFB (x:=x) (y:=y) hBk;cases hqa:okR x y q.a with
    | true =>
     cases hqb:okR x y q.b with
     | true =>
      have HM:Hid ((⟨q.k,q.v,q.op,q.nm,q.ar,zFz x y q.a,zFz x y q.b⟩:Wt.Nd)=n2):=by show _=_;rw [<-HN2.out,zGr hA hqa,zGr hBk hqb];unfold mvN;rw [if_neg hk2,if_pos hk3,hqa,hqb];rfl
      rw [hqa] at E1;rw [hqb] at E2;go_upto_region 12 with (first
       | ((with_reducible refine wpList_load_mid (cs:=zAD q) ?_ 30 (.tmp 30) ?_ (bb) (off+i * 20) ?_ _ ?_ underlying30 ?_ ?_ ?_);rfl;rfl;rfl;exact hx0;rfl;kernel_rfl)
       | ((with_reducible refine wpList_store_mid ?_ 30 (.tmp 12) (.tmp 31) ?_ (wr.heap.size) 0 (zAD q).toArray ?_ ?_ ?_ ?_ ?_ ?_);rfl;rfl;rfl;rfl;exact tZ;kernel_rfl;exact zAc _))
      generalize (wr.alloc (.cells zC 30)).setCells wr.heap.size 0 (zAD q).toArray.toList=W3 at *;clear tZ hx0;have n0:W3.cell? ⟨wr.heap.size,0,none⟩=some (.int .i64 3):=by first | exact pN.2.1 0 _ rfl | (rw [<-hk];exact pN.2.1 0 _ rfl)
      go_upto_region 13 with fail
      have rA:=zI7 pN;go_wp2_with ((with_reducible refine wpList_load_mid (cs:=rf5 q.a) ?_ 28 (.tmp 41) ?_ (wr.heap.size) 10 ?_ _ ?_ underlying28 ?_ ?_ ?_);rfl;rfl;rfl;exact rA;rfl;kernel_rfl)
      have CX:=λw=>HX.out q.a w hA
      rw [E1] at CX;refine (CX _).mono ?_;rintro e vW4 ⟨rfl,hb⟩;replace hbr:=zAA hbr hb
      replace pN:=AtL.below hb pN
      generalize zFz x y q.a=a2 at *;have sT:vW4.there wr.heap.size 10 (rf5 a2).toArray.size:=pN.thereSub 10 5 (by show 10+5<=20;omega);replace pN:=zBm pN a2
      replace hbr:=zAu hbr (Nat.le_refl _) (rf5 a2) 10
      clear hb rA CX E1;go_upto_region 14 with ((with_reducible refine wpList_store_mid ?_ 28 (.tmp 48) (.tmp 46) ?_ (wr.heap.size) 10 (rf5 a2).toArray ?_ ?_ ?_ ?_ ?_ ?_);rfl;rfl;rfl;rfl;exact sT;kernel_rfl;exact zDH _)
      generalize vW4.setCells wr.heap.size 10 (rf5 a2).toArray.toList=W4 at *;clear sT;have n0':W4.cell? ⟨wr.heap.size,0,none⟩=some (.int .i64 3):=by rw [<-hk3];exact pN.2.1 0 _ rfl
      clear n0;go_upto_region 15 with fail
      have rA:=zOf pN;go_wp2_with ((with_reducible refine wpList_load_mid (cs:=rf5 q.b) ?_ 28 (.tmp 53) ?_ (wr.heap.size) 15 ?_ _ ?_ underlying28 ?_ ?_ ?_);rfl;rfl;rfl;exact rA;rfl;kernel_rfl)
      have CX:=λw=>HX.out q.b w hBk
      rw [E2] at CX;refine (CX _).mono ?_;rintro e vW5 ⟨rfl,hb⟩;replace hbr:=zAA hbr hb
      replace pN:=AtL.below hb pN
      generalize zFz x y q.b=b2 at *;have sT:vW5.there wr.heap.size 15 (rf5 b2).toArray.size:=pN.thereSub 15 5 (by show 15+5<=20;omega);replace pN:=zCV pN b2
      replace hbr:=zAu hbr (Nat.le_refl _) (rf5 b2) 15
      clear hb rA CX E2;go_upto_region 16 with ((with_reducible refine wpList_store_mid ?_ 28 (.tmp 60) (.tmp 58) ?_ (wr.heap.size) 15 (rf5 b2).toArray ?_ ?_ ?_ ?_ ?_ ?_);rfl;rfl;rfl;rfl;exact sT;kernel_rfl;exact zDH _)
      generalize vW5.setCells wr.heap.size 15 (rf5 b2).toArray.toList=W5 at *;clear sT;clear n0';go_upto_region 18 with fail
      rw [HM.out] at pN;have rN:=AtL.range pN;have own:=HO.out.below hbr;have hBW:=zAA hB hbr;clear pN HO hbr hB;go_wp2_with (first
       | ((with_reducible refine wpList_load_mid (cs:=zAD n2) ?_ 30 (.tmp 12) ?_ (wr.heap.size) 0 ?_ _ ?_ underlying30 ?_ ?_ ?_);rfl;rfl;rfl;exact rN;rfl;kernel_rfl)
       | ((with_reducible refine zAR ?_ (.tmp 69) ?_ n2 ?_ ?_);rfl;rfl;rfl)
       | (at_builtin;refine zBA (by rfl) (.tmp 68) (.tmp 70) (by rfl) W2 (W5.alloc (.cells (zAD n2).toArray 30)) (zAI hBW _) _ A (by rfl) (own.below ((Below.refl _ _).alloc (Nat.le_refl _) _)) (some ⟨W5.heap.size,0,none⟩) [n2] 1 (by rfl) (zAf W5 n2).rd Nat.one_pos HAL ?_))
      intro v9 w9 own9 hb9;have HO9:Hid (OwnN w9 W2.heap.size v9 ((L.take (i+1)).map (mvN x y))):=by show OwnN _ _ _ _;rw [HTK.out];exact own9
      clear own9 own;go_wp2_with fail
      go_roundg (L.length - (i+1))
      case rel=>exact ⟨i+1,by simp,rfl,hlt,HO9,hb9⟩
      case measure=>omega
     | false =>
      have HM:Hid (zA0=n2):=by show _=_;rw [<-HN2.out];unfold mvN;rw [if_neg hk2,if_pos hk3,hqa,hqb];rfl
      rw [hqa] at E1;rw [hqb] at E2;go_upto_region 12 with (first
       | ((with_reducible refine wpList_load_mid (cs:=zAD q) ?_ 30 (.tmp 30) ?_ (bb) (off+i * 20) ?_ _ ?_ underlying30 ?_ ?_ ?_);rfl;rfl;rfl;exact hx0;rfl;kernel_rfl)
       | ((with_reducible refine wpList_store_mid ?_ 30 (.tmp 12) (.tmp 31) ?_ (wr.heap.size) 0 (zAD q).toArray ?_ ?_ ?_ ?_ ?_ ?_);rfl;rfl;rfl;rfl;exact tZ;kernel_rfl;exact zAc _))
      generalize (wr.alloc (.cells zC 30)).setCells wr.heap.size 0 (zAD q).toArray.toList=W3 at *;clear tZ hx0;have n0:W3.cell? ⟨wr.heap.size,0,none⟩=some (.int .i64 3):=by first | exact pN.2.1 0 _ rfl | (rw [<-hk];exact pN.2.1 0 _ rfl)
      go_upto_region 13 with fail
      have rA:=zI7 pN;go_wp2_with ((with_reducible refine wpList_load_mid (cs:=rf5 q.a) ?_ 28 (.tmp 41) ?_ (wr.heap.size) 10 ?_ _ ?_ underlying28 ?_ ?_ ?_);rfl;rfl;rfl;exact rA;rfl;kernel_rfl)
      have CX:=λw=>HX.out q.a w hA
      rw [E1] at CX;refine (CX _).mono ?_;rintro e vW4 ⟨rfl,hb⟩;replace hbr:=zAA hbr hb
      replace pN:=AtL.below hb pN
      generalize zFz x y q.a=a2 at *;have sT:vW4.there wr.heap.size 10 (rf5 a2).toArray.size:=pN.thereSub 10 5 (by show 10+5<=20;omega);replace pN:=zBm pN a2
      replace hbr:=zAu hbr (Nat.le_refl _) (rf5 a2) 10
      clear hb rA CX E1;go_upto_region 14 with ((with_reducible refine wpList_store_mid ?_ 28 (.tmp 48) (.tmp 46) ?_ (wr.heap.size) 10 (rf5 a2).toArray ?_ ?_ ?_ ?_ ?_ ?_);rfl;rfl;rfl;rfl;exact sT;kernel_rfl;exact zDH _)
      generalize vW4.setCells wr.heap.size 10 (rf5 a2).toArray.toList=W4 at *;clear sT;have n0':W4.cell? ⟨wr.heap.size,0,none⟩=some (.int .i64 3):=by rw [<-hk3];exact pN.2.1 0 _ rfl
      clear n0;go_upto_region 15 with fail
      have rA:=zOf pN;go_wp2_with ((with_reducible refine wpList_load_mid (cs:=rf5 q.b) ?_ 28 (.tmp 53) ?_ (wr.heap.size) 15 ?_ _ ?_ underlying28 ?_ ?_ ?_);rfl;rfl;rfl;exact rA;rfl;kernel_rfl)
      have CX:=λw=>HX.out q.b w hBk
      rw [E2] at CX;refine (CX _).mono ?_;rintro e vW5 ⟨rfl,hb⟩;replace hbr:=zAA hbr hb
      replace pN:=AtL.below hb pN
      generalize zFz x y q.b=b2 at *;have sT:vW5.there wr.heap.size 15 (rf5 b2).toArray.size:=pN.thereSub 15 5 (by show 15+5<=20;omega);replace pN:=zCV pN b2
      replace hbr:=zAu hbr (Nat.le_refl _) (rf5 b2) 15
      clear hb rA CX E2;go_upto_region 16 with ((with_reducible refine wpList_store_mid ?_ 28 (.tmp 60) (.tmp 58) ?_ (wr.heap.size) 15 (rf5 b2).toArray ?_ ?_ ?_ ?_ ?_ ?_);rfl;rfl;rfl;rfl;exact sT;kernel_rfl;exact zDH _)
      generalize vW5.setCells wr.heap.size 15 (rf5 b2).toArray.toList=W5 at *;clear sT;clear n0';have pLL:=HL0.out.below (zAA hB hbr);have rL:=AtL.range pLL;have tN:W5.there wr.heap.size 0 (zAD zA0).toArray.size:=pN.there;replace pN:=pN.setAll (vs:=zAD zA0) rfl
      replace hbr:=zAu hbr (Nat.le_refl _) (zAD zA0) 0
      go_upto_region 18 with (first
       | ((with_reducible refine wpList_load_mid (cs:=zAD zA0) ?_ 30 (.tmp 9) ?_ (kl) 0 ?_ _ ?_ underlying30 ?_ ?_ ?_);rfl;rfl;rfl;exact rL;rfl;kernel_rfl)
       | ((with_reducible refine wpList_store_mid ?_ 30 (.tmp 12) (.tmp 67) ?_ (wr.heap.size) 0 (zAD zA0).toArray ?_ ?_ ?_ ?_ ?_ ?_);rfl;rfl;rfl;rfl;exact tN;kernel_rfl;exact zAc _))
      generalize W5.setCells wr.heap.size 0 (zAD zA0).toArray.toList=W6 at *;clear tN rL pLL;rw [HM.out] at pN;have rN:=AtL.range pN;have own:=HO.out.below hbr;have hBW:=zAA hB hbr;clear pN HO hbr hB;go_wp2_with (first
       | ((with_reducible refine wpList_load_mid (cs:=zAD n2) ?_ 30 (.tmp 12) ?_ (wr.heap.size) 0 ?_ _ ?_ underlying30 ?_ ?_ ?_);rfl;rfl;rfl;exact rN;rfl;kernel_rfl)
       | ((with_reducible refine zAR ?_ (.tmp 69) ?_ n2 ?_ ?_);rfl;rfl;rfl)
       | (at_builtin;refine zBA (by rfl) (.tmp 68) (.tmp 70) (by rfl) W2 (W6.alloc (.cells (zAD n2).toArray 30)) (zAI hBW _) _ A (by rfl) (own.below ((Below.refl _ _).alloc (Nat.le_refl _) _)) (some ⟨W6.heap.size,0,none⟩) [n2] 1 (by rfl) (zAf W6 n2).rd Nat.one_pos HAL ?_))
      intro v9 w9 own9 hb9;have HO9:Hid (OwnN w9 W2.heap.size v9 ((L.take (i+1)).map (mvN x y))):=by show OwnN _ _ _ _;rw [HTK.out];exact own9
      clear own9 own;go_wp2_with fail
      go_roundg (L.length - (i+1))
      case rel=>exact ⟨i+1,by simp,rfl,hlt,HO9,hb9⟩
      case measure=>omega
    | false =>
     obtain ⟨qb,hqb⟩:∃ qb,okR x y q.b=qb:=⟨_,rfl⟩
     have HM:Hid (zA0=n2):=by show _=_;rw [<-HN2.out];unfold mvN;rw [if_neg hk2,if_pos hk3,hqa];rfl
     rw [hqa] at E1;rw [hqb] at E2;go_upto_region 12 with (first
      | ((with_reducible refine wpList_load_mid (cs:=zAD q) ?_ 30 (.tmp 30) ?_ (bb) (off+i * 20) ?_ _ ?_ underlying30 ?_ ?_ ?_);rfl;rfl;rfl;exact hx0;rfl;kernel_rfl)
      | ((with_reducible refine wpList_store_mid ?_ 30 (.tmp 12) (.tmp 31) ?_ (wr.heap.size) 0 (zAD q).toArray ?_ ?_ ?_ ?_ ?_ ?_);rfl;rfl;rfl;rfl;exact tZ;kernel_rfl;exact zAc _))
     generalize (wr.alloc (.cells zC 30)).setCells wr.heap.size 0 (zAD q).toArray.toList=W3 at *;clear tZ hx0;have n0:W3.cell? ⟨wr.heap.size,0,none⟩=some (.int .i64 3):=by first | exact pN.2.1 0 _ rfl | (rw [<-hk];exact pN.2.1 0 _ rfl)
     go_upto_region 13 with fail
     have rA:=zI7 pN;go_wp2_with ((with_reducible refine wpList_load_mid (cs:=rf5 q.a) ?_ 28 (.tmp 41) ?_ (wr.heap.size) 10 ?_ _ ?_ underlying28 ?_ ?_ ?_);rfl;rfl;rfl;exact rA;rfl;kernel_rfl)
     have CX:=λw=>HX.out q.a w hA
     rw [E1] at CX;refine (CX _).mono ?_;rintro e vW4 ⟨rfl,hb⟩;replace hbr:=zAA hbr hb
     replace pN:=AtL.below hb pN
     generalize zFz x y q.a=a2 at *;have sT:vW4.there wr.heap.size 10 (rf5 a2).toArray.size:=pN.thereSub 10 5 (by show 10+5<=20;omega);replace pN:=zBm pN a2
     replace hbr:=zAu hbr (Nat.le_refl _) (rf5 a2) 10
     clear hb rA CX E1;go_upto_region 14 with ((with_reducible refine wpList_store_mid ?_ 28 (.tmp 48) (.tmp 46) ?_ (wr.heap.size) 10 (rf5 a2).toArray ?_ ?_ ?_ ?_ ?_ ?_);rfl;rfl;rfl;rfl;exact sT;kernel_rfl;exact zDH _)
     generalize vW4.setCells wr.heap.size 10 (rf5 a2).toArray.toList=W4 at *;clear sT;have n0':W4.cell? ⟨wr.heap.size,0,none⟩=some (.int .i64 3):=by rw [<-hk3];exact pN.2.1 0 _ rfl
     clear n0;go_upto_region 15 with fail
     have rA:=zOf pN;go_wp2_with ((with_reducible refine wpList_load_mid (cs:=rf5 q.b) ?_ 28 (.tmp 53) ?_ (wr.heap.size) 15 ?_ _ ?_ underlying28 ?_ ?_ ?_);rfl;rfl;rfl;exact rA;rfl;kernel_rfl)
     have CX:=λw=>HX.out q.b w hBk
     rw [E2] at CX;refine (CX _).mono ?_;rintro e vW5 ⟨rfl,hb⟩;replace hbr:=zAA hbr hb
     replace pN:=AtL.below hb pN
     generalize zFz x y q.b=b2 at *;have sT:vW5.there wr.heap.size 15 (rf5 b2).toArray.size:=pN.thereSub 15 5 (by show 15+5<=20;omega);replace pN:=zCV pN b2
     replace hbr:=zAu hbr (Nat.le_refl _) (rf5 b2) 15
     clear hb rA CX E2;go_upto_region 16 with ((with_reducible refine wpList_store_mid ?_ 28 (.tmp 60) (.tmp 58) ?_ (wr.heap.size) 15 (rf5 b2).toArray ?_ ?_ ?_ ?_ ?_ ?_);rfl;rfl;rfl;rfl;exact sT;kernel_rfl;exact zDH _)
     generalize vW5.setCells wr.heap.size 15 (rf5 b2).toArray.toList=W5 at *;clear sT;clear n0';have pLL:=HL0.out.below (zAA hB hbr);have rL:=AtL.range pLL;have tN:W5.there wr.heap.size 0 (zAD zA0).toArray.size:=pN.there;replace pN:=pN.setAll (vs:=zAD zA0) rfl
     replace hbr:=zAu hbr (Nat.le_refl _) (zAD zA0) 0
     go_upto_region 18 with (first
      | ((with_reducible refine wpList_load_mid (cs:=zAD zA0) ?_ 30 (.tmp 9) ?_ (kl) 0 ?_ _ ?_ underlying30 ?_ ?_ ?_);rfl;rfl;rfl;exact rL;rfl;kernel_rfl)
      | ((with_reducible refine wpList_store_mid ?_ 30 (.tmp 12) (.tmp 67) ?_ (wr.heap.size) 0 (zAD zA0).toArray ?_ ?_ ?_ ?_ ?_ ?_);rfl;rfl;rfl;rfl;exact tN;kernel_rfl;exact zAc _))
     generalize W5.setCells wr.heap.size 0 (zAD zA0).toArray.toList=W6 at *;clear tN rL pLL;rw [HM.out] at pN;have rN:=AtL.range pN;have own:=HO.out.below hbr;have hBW:=zAA hB hbr;clear pN HO hbr hB;go_wp2_with (first
      | ((with_reducible refine wpList_load_mid (cs:=zAD n2) ?_ 30 (.tmp 12) ?_ (wr.heap.size) 0 ?_ _ ?_ underlying30 ?_ ?_ ?_);rfl;rfl;rfl;exact rN;rfl;kernel_rfl)
      | ((with_reducible refine zAR ?_ (.tmp 69) ?_ n2 ?_ ?_);rfl;rfl;rfl)
      | (at_builtin;refine zBA (by rfl) (.tmp 68) (.tmp 70) (by rfl) W2 (W6.alloc (.cells (zAD n2).toArray 30)) (zAI hBW _) _ A (by rfl) (own.below ((Below.refl _ _).alloc (Nat.le_refl _) _)) (some ⟨W6.heap.size,0,none⟩) [n2] 1 (by rfl) (zAf W6 n2).rd Nat.one_pos HAL ?_))
     intro v9 w9 own9 hb9;have HO9:Hid (OwnN w9 W2.heap.size v9 ((L.take (i+1)).map (mvN x y))):=by show OwnN _ _ _ _;rw [HTK.out];exact own9
     clear own9 own;go_wp2_with fail
     go_roundg (L.length - (i+1))
     case rel=>exact ⟨i+1,by simp,rfl,hlt,HO9,hb9⟩
     case measure=>omega
   ·have hkb2:(q.k == 2)=false:=by simp [hk2]
    have hkb3:(q.k == 3)=false:=by simp [hk3]
    have HM:Hid (q=n2):=by show _=_;rw [<-HN2.out];unfold mvN;rw [if_neg hk2,if_neg hk3]
    go_upto_region 12 with (first
     | ((with_reducible refine wpList_load_mid (cs:=zAD q) ?_ 30 (.tmp 30) ?_ (bb) (off+i * 20) ?_ _ ?_ underlying30 ?_ ?_ ?_);rfl;rfl;rfl;exact hx0;rfl;kernel_rfl)
     | ((with_reducible refine wpList_store_mid ?_ 30 (.tmp 12) (.tmp 31) ?_ (wr.heap.size) 0 (zAD q).toArray ?_ ?_ ?_ ?_ ?_ ?_);rfl;rfl;rfl;rfl;exact tZ;kernel_rfl;exact zAc _))
    generalize (wr.alloc (.cells zC 30)).setCells wr.heap.size 0 (zAD q).toArray.toList=W3 at *;clear tZ hx0;have n0:W3.cell? ⟨wr.heap.size,0,none⟩=some (.int .i64 q.k):=by first | exact pN.2.1 0 _ rfl | (rw [<-hk];exact pN.2.1 0 _ rfl)
    go_upto_region 18 with fail
    clear n0;rw [HM.out] at pN;have rN:=AtL.range pN;have own:=HO.out.below hbr;have hBW:=zAA hB hbr;clear pN HO hbr hB;go_wp2_with (first
     | ((with_reducible refine wpList_load_mid (cs:=zAD n2) ?_ 30 (.tmp 12) ?_ (wr.heap.size) 0 ?_ _ ?_ underlying30 ?_ ?_ ?_);rfl;rfl;rfl;exact rN;rfl;kernel_rfl)
     | ((with_reducible refine zAR ?_ (.tmp 69) ?_ n2 ?_ ?_);rfl;rfl;rfl)
     | (at_builtin;refine zBA (by rfl) (.tmp 68) (.tmp 70) (by rfl) W2 (W3.alloc (.cells (zAD n2).toArray 30)) (zAI hBW _) _ A (by rfl) (own.below ((Below.refl _ _).alloc (Nat.le_refl _) _)) (some ⟨W3.heap.size,0,none⟩) [n2] 1 (by rfl) (zAf W3 n2).rd Nat.one_pos HAL ?_))
    intro v9 w9 own9 hb9;have HO9:Hid (OwnN w9 W2.heap.size v9 ((L.take (i+1)).map (mvN x y))):=by show OwnN _ _ _ _;rw [HTK.out];exact own9
    clear own9 own;go_wp2_with fail
    go_roundg (L.length - (i+1))
    case rel=>exact ⟨i+1,by simp,rfl,hlt,HO9,hb9⟩
    case measure=>omega
  ·have hli:¬ (i:Int)<(L.length:Int):=by omega
   have hF:=HO.out;rw [List.take_of_length_le (by omega)] at hF;have hBB:=zAA hB2 hB;have hsz:=hB2.size;clear HO;go_wp2;go_ret2
   exact ⟨⟨_,rfl,⟨hF.1,hF.2.imp id λ⟨g,cap,cur,a,b,c⟩=>⟨g,cap,cur,a,Nat.le_trans hsz b,c⟩⟩⟩,hBB⟩
end Go.Proofs.YtdghjlmnlodnlaaGreatDoor
namespace Go.Proofs.YtdghjlmnlodnlaaGreatDoor.Wnum
def decs (d:Nat):Nat->Nat->List UInt8
 | 0,_=>[]
 | k+1,r=>if r=0 then [] else UInt8.ofNat (48+r * 10 / d)::decs d k (r * 10 % d)
def fu (d:Nat):Nat->Nat->Nat
 | 0,_=>0
 | k+1,r=>if r=0 then 0 else fu d k (r * 10 % d)+1
theorem decs_zero (d k:Nat):decs d k 0=[]:=by cases k <;> rfl
theorem decs_more {d k r:Nat} (h:r ≠ 0):decs d (k+1) r=UInt8.ofNat (48+r * 10 / d)::decs d k (r * 10 % d):=if_neg h
theorem zIm (d k:Nat):fu d k 0=0:=by cases k <;> rfl
theorem zG5 {d k r:Nat} (h:r ≠ 0):fu d (k+1) r=fu d k (r * 10 % d)+1:=if_neg h
theorem ends_step {d k r:Nat} (h:r * 10 ^ (k+1) % d=0):r * 10 % d * 10 ^ k % d=0:=by
 rw [Nat.mod_mul_mod,Nat.mul_assoc,<-Nat.pow_succ'];exact h
theorem ends_zero {d r:Nat} (hr:r<d) (h:r * 10 ^ 0 % d=0):r=0:=by
 rw [Nat.pow_zero,Nat.mul_one,Nat.mod_eq_of_lt hr] at h;exact h
theorem zKf {d:Nat} (hd:0<d):∀ k r,r<d->r * 10 ^ k % d=0->fu d (k+1) r=fu d k r:=by
 intro k;induction k with
 | zero=>intro r hr h;rw [ends_zero hr h];rfl
 | succ k ih =>
  intro r hr h;by_cases h0:r=0
  ·rw [h0,zIm,zIm]
  ·rw [zG5 h0,ih _ (Nat.mod_lt _ hd) (ends_step h)];exact (zG5 h0).symm
theorem fu_less {d k r:Nat} (hd:0<d) (hr:r<d) (h0:r ≠ 0) (hk:k+1<=6) (h:r * 10 ^ (k+1) % d=0):fu d 6 (r * 10 % d)<fu d 6 r:=by
 have up:∀ j m x,x<d->x * 10 ^ m % d=0->fu d (m+j) x=fu d m x:=by
  intro j;induction j with
  | zero=>intro m x _ _;rfl
  | succ j ih =>
   intro m x hx hm;rw [show m+(j+1)=(m+j)+1 by omega,zKf hd (m+j) x hx (by rw [Nat.pow_add,<-Nat.mul_assoc,Nat.mul_mod,hm,Nat.zero_mul,Nat.zero_mod]),ih m x hx hm]
 have e1:=up (6 - (k+1)) (k+1) r hr h;have e2:=up (6 - k) k (r * 10 % d) (Nat.mod_lt _ hd) (ends_step h);rw [show k+1+(6 - (k+1))=6 by omega] at e1;rw [show k+(6 - k)=6 by omega] at e2;rw [e1,e2,zG5 h0];omega
def sgnT (N:Int):List UInt8:=if N<0 then [45] else []
def txt (N:Int) (D:Nat):List UInt8 :=
 sgnT N++(if 1000000 % D ≠ 0 then Lib.decDigits N.natAbs++47::Lib.decDigits D else if N.natAbs % D=0 then Lib.decDigits (N.natAbs / D) else Lib.decDigits (N.natAbs / D)++46::decs D 6 (N.natAbs % D))
theorem txt_frac {N:Int} {D:Nat} (h:1000000 % D ≠ 0):txt N D=sgnT N++(Lib.decDigits N.natAbs++47::Lib.decDigits D):=by unfold txt;rw [if_pos h]
theorem txt_whole {N:Int} {D:Nat} (h:1000000 % D=0) (h':N.natAbs % D=0):txt N D=sgnT N++Lib.decDigits (N.natAbs / D):=by unfold txt;rw [if_neg (by omega),if_pos h']
theorem txt_point {N:Int} {D:Nat} (h:1000000 % D=0) (h':N.natAbs % D ≠ 0):txt N D=sgnT N++(Lib.decDigits (N.natAbs / D)++46::decs D 6 (N.natAbs % D)):=by unfold txt;rw [if_neg (by omega),if_neg h']
theorem itoa_sgn (N:Int):Lib.itoa N=sgnT N++Lib.decDigits N.natAbs:=by
 unfold Lib.itoa sgnT;by_cases h:N<0
 ·rw [if_pos h,if_pos h];rfl
 ·rw [if_neg h,if_neg h,show N.toNat=N.natAbs by omega];rfl
theorem ends_six {d r:Nat} (h:1000000 % d=0):r * 10 ^ 6 % d=0:=by
 rw [show (10:Nat) ^ 6=1000000 by decide,Nat.mul_mod,h,Nat.mul_zero,Nat.zero_mod]
theorem decs_length (d:Nat):∀ k r,(decs d k r).length<=k:=by
 intro k;induction k with
 | zero=>intro r;exact Nat.le_refl _
 | succ k ih =>
  intro r;by_cases h:r=0
  ·rw [h,decs_zero];exact Nat.zero_le _
  ·rw [decs_more h,List.length_cons];have:=ih (r * 10 % d);omega
end Go.Proofs.YtdghjlmnlodnlaaGreatDoor.Wnum
namespace Go.Proofs.YtdghjlmnlodnlaaGreatDoor
open Tryz
open Go.RowKit Go.Shelf
variable {B b u:Nat} {bs:List Value} {w:World}
def tgh (x:Wt.Nd):Int:=match Wt.opOf x.op with | some o=>o.2.2 | none=>7
def mrk (x:Wt.Nd):List UInt8:=match Wt.opOf x.op with | some o=>o.2.1 | none=>[]
def zFx (v:Wt.Vl):List UInt8 :=
 if v.k=1 then Wnum.txt (Wnum.cN v.n v.d) (Wnum.cD v.n v.d).toNat
 else if v.k=2 then 34::(Wlx.dbl v.t.data.toList++[34])
 else if v.k=3 then (if v.b then [84,82,85,69] else [70,65,76,83,69])
 else fNames.getD v.f.toNat []
def zCG (a:Wt.Rf):List UInt8:=if a.s=⟨#[]⟩ then cw a else a.s.data.toList++(33::cw a)
def prA (sub:Int->List Wt.Nd->List UInt8 × List Wt.Nd):Nat->Bool->List Wt.Nd->List UInt8 × List Wt.Nd
 | 0,_,l=>([],l)
 | n+1,first,l=>((if first then [] else [44])++(sub 0 l).1++(prA sub n false (sub 0 l).2).1,(prA sub n false (sub 0 l).2).2)
def prS (sub:Int->List Wt.Nd->List UInt8 × List Wt.Nd) (x:Wt.Nd) (r:List Wt.Nd):List UInt8 × List Wt.Nd :=
 if x.k=1 then (zFx x.v,r)
 else if x.k=2 then (zCG x.a,r)
 else if x.k=3 then (zCG x.a++58::zCG x.b,r)
 else (x.nm.data.toList++[40]++(prA sub x.ar.toNat true r).1++[41],(prA sub x.ar.toNat true r).2)
def prN (sub:Int->List Wt.Nd->List UInt8 × List Wt.Nd) (x:Wt.Nd) (r:List Wt.Nd):List UInt8 × List Wt.Nd :=
 if tgh x=7 then prS sub x r
 else if tgh x=5 then (mrk x++(sub 5 r).1,(sub 5 r).2)
 else if tgh x=6 then ((sub 6 r).1++mrk x,(sub 6 r).2)
 else ((sub (tgh x) r).1++mrk x++(sub (tgh x+1) (sub (tgh x) r).2).1,(sub (tgh x+1) (sub (tgh x) r).2).2)
def pr:Nat->Int->List Wt.Nd->List UInt8 × List Wt.Nd
 | 0,_,l=>([],l)
 | _+1,_,[]=>([],[])
 | f+1,least,x::r=>if least<=tgh x then prN (pr f) x r else (40::(prN (pr f) x r).1++[41],(prN (pr f) x r).2)
open Go.RowKit
theorem zMY (u:Nat):(((UInt8.ofNat (48+u % 10)).toNat:Nat):Int)=48+(u:Int) % 10:=by
 have h:(UInt8.ofNat (48+u % 10)).toNat=48+u % 10:=by
  rw [UInt8.toNat_ofNat'];exact Nat.mod_eq_of_lt (by omega)
 rw [h];omega
theorem zL0 (u:Nat) (c:UInt8) (w:World) (hc:((c.toNat:Nat):Int)=48+(u:Int) % 10) :
  (convert 82 9 (.slice (some ⟨w.heap.size,0,none⟩) 1 1)).run prog (w.alloc (.cells #[.int .u8 (48+(u:Int) % 10)] 5))=.ok (.string ⟨#[c]⟩) (w.alloc (.cells #[.int .u8 (48+(u:Int) % 10)] 5)):=by
 have:=run_convert_bytes_back (P:=prog) (w.alloc (.cells #[.int .u8 (48+(u:Int) % 10)] 5)) 82 9 5 ⟨w.heap.size,0,none⟩ 1 [c] underlying82 underlying5 underlying9 (by
  intro j hj;obtain rfl:j=0:=by simp at hj;omega
  simp [Addr.add,go_sem,hc])
 exact this
theorem zAt (a b:List UInt8):((⟨a.toArray⟩:ByteArray)++(⟨b.toArray⟩:ByteArray))=⟨(a++b).toArray⟩:=by
 apply ByteArray.ext
 rw [ByteArray.data_append];simp
theorem dd_len (n:Nat) (h:n<=9223372036854775807):(Lib.decDigits n).length<=21:=by
 have:=Lib.itoa_length_le (n:Int) (by omega) (by omega);unfold Lib.itoa at this;rw [if_neg (by omega),Int.toNat_natCast] at this;exact this
theorem zE4 (h:u<10):Lib.decDigits u=[UInt8.ofNat (48+u % 10)]:=by
 unfold Lib.decDigits;rw [dif_pos h,Nat.mod_eq_of_lt h]
theorem zOa (h:¬ u<10):Lib.decDigits u=Lib.decDigits (u / 10)++[UInt8.ofNat (48+u % 10)]:=by
 conv=>lhs;unfold Lib.decDigits
 rw [dif_neg h]
theorem zAi (n:Nat) (w:World) (hn:n<=9223372036854775807) :
  CR 123 #[.int .u64 (n:Int)] w (.string ⟨(Lib.decDigits n).toArray⟩):=by
 have DL:=dd_len n hn;go_enter func123,ntmps123;go_wp2;go_loopw [0,3] (λx s wr=>∃ (u:Nat) (l:List UInt8),x=.int .u64 u/\s=.string ⟨l.toArray⟩/\u<=9223372036854775807/\Hid (Lib.decDigits n=Lib.decDigits u++l)/\Below w.heap.size w wr) (λx _ _=>(intOf x).toNat)
 case atStart=>exact ⟨n,[],rfl,rfl,hn,(by rw [List.append_nil]:Lib.decDigits n=Lib.decDigits n++[]),Below.refl _ _⟩
 case round =>
  obtain ⟨u,l,rfl,rfl,hu,HI,qB⟩:=hrel;have ll:l.length<=21:=by
   have:=congrArg List.length HI.out;rw [List.length_append] at this;omega
  obtain ⟨c,ec⟩:∃ c,c=UInt8.ofNat (48+u % 10):=⟨_,rfl⟩
  have hc:=zMY u;rw [<-ec] at hc;have hcv:=zL0 u c wr hc;have EC:Hid (c=UInt8.ofNat (48+u % 10)):=ec;clear ec;have hB:=zAI qB (.cells #[.int .u8 (48+(u:Int) % 10)] 5);by_cases h10:u<10
  ·have E:Hid (Lib.decDigits n=c::l):=by show _=_;rw [HI.out,zE4 h10,EC.out];rfl
   have q0:((u:Int) / 10 == 0)=true:=by rw [beq_iff_eq];omega
   go_wp2;go_ret;refine ⟨?_,hB⟩;rw [E.out];exact congrArg (λx=>Ending.returned (Value.string x)) (zAt [c] l)
  ·have E:Hid (Lib.decDigits n=Lib.decDigits (u / 10)++(c::l)):=by show _=_;rw [HI.out,zOa h10,EC.out,List.append_assoc];rfl
   have q0:((u:Int) / 10 == 0)=false:=by rw [beq_eq_false_iff_ne];omega
   go_wp2;go_roundw
   case rel=>exact ⟨u / 10,c::l,by go_num,congrArg Value.string (zAt [c] l),by omega,E,hB⟩
   case measure=>simp [intOf];omega
theorem zR6:liesAt prog prog.depth 84 (2 / prog.cellsOf 84) 0 84 1=true:=by kernel_rfl
theorem zM8:(prog.info? 84).map (λi=>i.size)=some 2:=by kernel_rfl
theorem zN8 (h:Lib.BuilderAt 84 5 B b (.pointer none) bs w) :
  Calls prog 89 #[.pointer (some ⟨b,0,none⟩)] w λe w'=>e=.returned (.tuple #[])/\w'=w.setCell ⟨b,0,none⟩ (.pointer (some ⟨b,0,none⟩)):=by
 have c0:=h.cell0;have f0:=h.frozen0;have hsh:=h.shape;obtain ⟨j,hj,hjs⟩:=Option.map_eq_some_iff.1 zM8;have k1:=Lib.run_to_unsafe (P:=prog) w ⟨b,0,none⟩ underlying81 underlying163 hj (by rw [hjs];decide) hsh (Nat.zero_lt_succ 1);have k2:=Lib.run_from_unsafe (P:=prog) w ⟨b,0,none⟩ underlying163 underlying81 hj hsh zR6;have k3:(callFunc 119 #[.pointer (some ⟨b,0,none⟩)]).run prog w=.ok (.value (.pointer (some ⟨b,0,none⟩))) w:=by
  rw [run_callFunc_extern func119 (by kernel_rfl) (by kernel_rfl) (by kernel_rfl) (e:=Extern.AbiNoEscape.same) (by kernel_rfl),Lib.run_noEscape];rfl
 go_enter func89,ntmps89;go_wp2;go_end0
 exact ⟨rfl,rfl⟩
theorem zO9 (h:Lib.BuilderAt 84 5 B b (.pointer (some ⟨b,0,none⟩)) bs w) :
  Calls prog 89 #[.pointer (some ⟨b,0,none⟩)] w λe w'=>e=.returned (.tuple #[])/\w'=w:=by
 have c0:=h.cell0;obtain ⟨j,hj,hjs⟩:=Option.map_eq_some_iff.1 zM8;have k1:=Lib.run_neq_ptr_same (P:=prog) w ⟨b,0,none⟩ underlying81 hj;go_enter func89,ntmps89;go_wp2;go_end0
 exact ⟨rfl,rfl⟩
theorem zH1:(prog.info? 5).map (λi=>(i.zero,i.size,i.bytes))=some (some (.int .u8 0),1,1):=by kernel_rfl
theorem zRa (c:Int) (w:World) (h:Lib.IsBuilder 84 5 B b bs w) (hlen:bs.length<=1000) (hBw:B<=w.heap.size) :
  Calls prog 181 #[.pointer (some ⟨b,0,none⟩),.int .u8 c] w λe w'=>e=.returned .nilIface/\Lib.IsBuilder 84 5 B b (bs++[.int .u8 c]) w'/\Below B w w':=by
 have CC:Calls prog 89 #[.pointer (some ⟨b,0,none⟩)] w λe w'=>e=.returned (.tuple #[])/\Lib.BuilderAt 84 5 B b (.pointer (some ⟨b,0,none⟩)) bs w'/\Below B w w':=by
  rcases h with h | h
  ·exact (zN8 h).mono λe w' ⟨he,hw⟩=>⟨he,by rw [hw];exact h.used _,by rw [hw];exact (Below.refl B w).setCell (p:=⟨b,0,none⟩) h.1 _⟩
  ·exact (zO9 h).mono λe w' ⟨he,hw⟩=>⟨he,by rw [hw];exact h,by rw [hw];exact Below.refl B w⟩
 obtain ⟨i0,hi,hz0,hz1,hz2⟩:=info_parts zH1;go_enter func181,ntmps181;go_wp2_with (go_at_call 89;refine CC.mono ?_)
 rintro e w1 ⟨rfl,hat,hb1⟩;have hlt:=hat.lt;obtain ⟨hB,v,hbk,hown,hne⟩:=hat;have s1:=hb1.size;have x1:w1.cell? ⟨b,1,none⟩=some v:=by rw [Lib.cell_of_heap hbk];rfl
 have news:∀ j u,[Value.int .u8 c][j]? = some u->(w1.alloc (.cells #[.int .u8 c] 5)).cell? ((⟨w1.heap.size,0,none⟩:Addr).add j)=some u:=by
  intro j u hj;cases j with
  | zero=>simp at hj;subst hj;simp [Addr.add,go_sem]
  | succ j=>simp at hj
 go_wp2_with (at_builtin;refine wpList_append_own _ rfl _ _ 82 rfl B 5 i0 (.int .u8 0) 1 1 underlying82 hi hz0 hz1 hz2 rfl (by decide) _ _ _ rfl (hown.alloc _) ⟨w1.heap.size,0,none⟩ 1 1 [.int .u8 c] rfl rfl news (by intro u hu;simp at hu;subst hu;rfl) (by unfold maxLen;omega) (by omega) (by simp;omega) ?_)
 intro v2 w2 hown2 hgrow _;have hk2:w2.heap[b]? = some (.cells #[.pointer (some ⟨b,0,none⟩),v] 84 (0,0)):=by
  rw [hgrow.block b (by simp;omega) (λe=>hne e.symm),Lib.alloc_old w1 _ b hlt];exact hbk
 have y0:w2.cell? ⟨b,0,none⟩=some (.pointer (some ⟨b,0,none⟩)):=by rw [Lib.cell_of_heap hk2];rfl
 have y1:w2.cell? ⟨b,1,none⟩=some v:=by rw [Lib.cell_of_heap hk2];rfl
 have y2:w2.frozen? ⟨b,1,none⟩=false:=Lib.frozen_of_heap hk2 1;have hB2:=(hb1.alloc (by omega) (.cells #[.int .u8 c] 5)).grown hgrow (by simp;omega) (λk hk=>(hown.lt k hk).1);obtain ⟨g,cap,rfl⟩:∃ g cap,v2=.slice (some ⟨g,0,none⟩) (bs.length+1) cap:=by
  rcases hown2.2 with ⟨_,h0⟩ | ⟨g,cap,cur,hv,_⟩
  ·omega
  ·exact ⟨g,cap,hv⟩
 go_wp2;go_ret;exact ⟨rfl,Or.inr (Lib.BuilderAt.put hB hk2 (bs':=bs++[.int .u8 c]) (by simpa using hown2) (by decide)),hB2.setCell (p:=⟨b,1,none⟩) hB _⟩
