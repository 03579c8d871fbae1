/- KShf, KWalkH, KWalkK, KWalkI, KWalkJ, KWalkY, KRows, KHtA, KHtB. -/
import Derived.Test.YtpkdhcijcndgnaaGreatDoorQ08
import Derived.Maps.OwnSet
set_option maxHeartbeats 4000000
set_option maxRecDepth 100000
set_option linter.unusedVariables false
namespace Go.Proofs.YtpkdhcijcndgnaaGreatDoor.Wf
open Go.Proofs.YtpkdhcijcndgnaaGreatDoor
def shf (s:Int) (x:I):I:=({x.1 with a:=if x.1.op=12 \/ x.1.op=13 \/ x.1.op=14 then x.1.a+s else x.1.a,b:=if x.1.op=12 \/ x.1.op=15 then x.1.b+s else x.1.b},x.2.map (· + s))
theorem zBk {s o a b:Int} (h:o ≠ 12/\o ≠ 13/\o ≠ 14/\o ≠ 15):shf s (ins o a b)=ins o a b:=by
 simp [shf,ins,h]
theorem zMU (s:Int) (v:Wt.Vl):shf s (zB5 v)=zB5 v:=by simp [shf,zB5]
theorem zSf (s:Int) (c:Wpl.Cl):shf s (zFL c)=zFL c:=by simp [shf,zFL]
theorem zKn {s o b:Int} (a p:Wpl.Ar) (h:o ≠ 12/\o ≠ 13/\o ≠ 14/\o ≠ 15):shf s (zAw o b a p)=zAw o b a p:=by simp [shf,zAw,h]
section
variable {α:Type} {own:Int} {nm:List ByteArray} {f:α->Nat->List I} {s:Nat}
theorem zBj (H:∀ k a,f k (a+s)=(f k a).map (shf s)):∀ (ks:List α) (a:Nat),zA0 f ks (a+s)=(zA0 f ks a).map (shf s)
 | [],_=>rfl
 | k::r,a=>by
  simp only [zA0,H,List.map_append,List.length_map];rw [show a+s+(f k a).length=a+(f k a).length+s by omega,zBj H r]
theorem zG2 (H:∀ k a,f k (a+s)=(f k a).map (shf s)) (k:α) (a:Nat):zAd f k (a+s)=(zAd f k a).map (shf s):=by
 simp only [zAd,H,List.map_append,List.map_cons,List.map_nil];rw [zBk (by omega)]
theorem zO7 (H:∀ k a,f k (a+s)=(f k a).map (shf s)) (h:α->Wt.Nd) (k:α) (a:Nat):zCE own nm h f k (a+s)=(zCE own nm h f k a).map (shf s):=by
 unfold zCE;split
 ·simp only [List.map_cons,List.map_nil];rw [zKn _ _ (by omega)]
 ·exact zG2 H k a
theorem zMI (H:∀ k a,f k (a+s)=(f k a).map (shf s)) (h:α->Wt.Nd) (id:Int) (ks:List α) (a:Nat):zCB own nm h f id ks (a+s)=(zCB own nm h f id ks a).map (shf s):=by
 simp only [zCB];split
 ·simp only [List.map_cons,List.map_nil,zMU]
 split
 ·simp only [List.map_cons,List.map_nil,zMU]
 split
 ·rw [zBj H];simp only [List.map_append,List.map_cons,List.map_nil];rw [zKn _ _ (by omega)]
 ·rw [show a+s+1=a+1+s by omega,zBj (zG2 H)];simp only [List.map_append,List.map_cons,List.map_nil];rw [zBk (by omega),zBk (by omega)];split
  ·rw [zKn _ _ (by omega)]
  ·rw [zKn _ _ (by omega)]
theorem zMJ (H:∀ k a,f k (a+s)=(f k a).map (shf s)) (yes:α) (no:List α) (a:Nat):zCC f yes no (a+s)=(zCC f yes no a).map (shf s):=by
 simp only [zCC];rw [show a+s+1=a+1+s by omega,H yes,List.length_map,show a+1+s+(f yes (a+1)).length+1=a+1+(f yes (a+1)).length+1+s by omega];rw [zBj H no];have e:(if no.isEmpty=true then [zB5 zK1] else (zA0 f no (a+1+(f yes (a+1)).length+1)).map (shf s))=(if no.isEmpty=true then [zB5 zK1] else zA0 f no (a+1+(f yes (a+1)).length+1)).map (shf s):=by
  split
  ·simp [zMU]
  ·rfl
 rw [e,List.length_map];simp only [List.map_cons,List.map_append];congr 1
 ·simp [shf,ins];omega
 ·congr 1
  congr 1
  simp [shf,ins];omega
theorem zKM (H:∀ k a,f k (a+s)=(f k a).map (shf s)) (e:Int):∀ (r:List α) (a:Nat),chB f (e+s) r (a+s)=(chB f e r a).map (shf s)
 | [],_=>rfl
 | k::r,a=>by
  simp only [chB,List.map_cons,List.map_append];rw [show a+s+1=a+1+s by omega,H k,List.length_map,show a+1+s+(f k (a+1)).length=a+1+(f k (a+1)).length+s by omega,zKM H e r];congr 1
theorem zIk (H:∀ k a,f k (a+s)=(f k a).map (shf s)):∀ (r:List α) (a:Nat),(chB f 0 r (a+s)).length=(chB f 0 r a).length
 | [],_=>rfl
 | k::r,a=>by
  simp only [chB,List.length_cons,List.length_append];rw [show a+s+1=a+1+s by omega,H k,List.length_map,show a+1+s+(f k (a+1)).length=a+1+(f k (a+1)).length+s by omega,zIk H r]
theorem zJV (H:∀ k a,f k (a+s)=(f k a).map (shf s)):∀ (r:List α) (a:Nat),chT f r (a+s)=(chT f r a).map (· + (s:Int))
 | [],_=>rfl
 | k::r,a=>by
  simp only [chT,List.map_cons];rw [show a+s+1=a+1+s by omega,H k,List.length_map,show a+1+s+(f k (a+1)).length=a+1+(f k (a+1)).length+s by omega,zJV H r];congr 1
theorem zGo (H:∀ k a,f k (a+s)=(f k a).map (shf s)) (l:List α) (a:Nat):zBX f l (a+s)=(zBX f l a).map (shf s):=by
 cases l with
 | nil=>simp [zBX,shf];omega
 | cons k r =>
  simp only [zBX];rw [show a+s+1=a+1+s by omega,H k,List.length_map,show a+1+s+(f k (a+1)).length=a+1+(f k (a+1)).length+s by omega,zIk H,zJV H];rw [show a+1+(f k (a+1)).length+s+(chB f 0 r (a+1+(f k (a+1)).length)).length=a+1+(f k (a+1)).length+(chB f 0 r (a+1+(f k (a+1)).length)).length+s by omega];have e:=zKM H ((a+1+(f k (a+1)).length+(chB f 0 r (a+1+(f k (a+1)).length)).length:Nat):Int) r (a+1+(f k (a+1)).length);rw [show ((a+1+(f k (a+1)).length+(chB f 0 r (a+1+(f k (a+1)).length)).length+s:Nat):Int)=((a+1+(f k (a+1)).length+(chB f 0 r (a+1+(f k (a+1)).length)).length:Nat):Int)+(s:Int) by omega,e];simp only [List.map_cons,List.map_append];congr 1
theorem zMi (H:∀ k a,f k (a+s)=(f k a).map (shf s)) (id:Int) (ks:List α) (a:Nat):zBm f id ks (a+s)=(zBm f id ks a).map (shf s):=by
 cases ks with
 | nil=>rfl
 | cons c r =>
  simp only [zBm,H c,List.map_append,List.length_map];rw [show a+s+(f c a).length=a+(f c a).length+s by omega];congr 1
  cases r with
  | nil =>
   simp only;split
   ·exact zGo H _ _
   ·rfl
  | cons u no =>
   simp only;split
   ·exact zMJ H _ _ _
   split
   ·rw [show a+(f c a).length+s+1=a+(f c a).length+1+s by omega,H u,List.length_map];simp only [List.map_cons];congr 1
    simp [shf,ins];omega
   ·exact zGo H _ _
theorem zL4 (H:∀ k a,f k (a+s)=(f k a).map (shf s)) (h:α->Wt.Nd) (x:Wt.Nd) (ks:List α) (a:Nat):zBs own nm h f x ks (a+s)=(zBs own nm h f x ks a).map (shf s):=by
 simp only [zBs];split
 ·rw [zBj H];simp only [List.map_append,List.map_cons,List.map_nil];rw [zBk (by omega)]
 split
 ·rw [show a+s+1=a+1+s by omega,zBj (zO7 H h)];simp only [List.map_append,List.map_cons,List.map_nil];rw [zBk (by omega),zBk (by omega)]
 split
 ·exact zMI H _ _ _ _
 ·exact zMi H _ _ _
theorem zKc (H:∀ k a,f k (a+s)=(f k a).map (shf s)) (h:α->Wt.Nd) (x:Wt.Nd) (ks:List α) (a:Nat):zAo own nm h f x ks (a+s)=(zAo own nm h f x ks a).map (shf s):=by
 simp only [zAo];split
 ·simp only [List.map_cons,List.map_nil,zMU]
 split
 ·simp only [List.map_cons,List.map_nil,zSf]
 split
 ·rw [zBj H];simp only [List.map_append,List.map_cons,List.map_nil];rw [zBk (by omega)]
 split
 ·rw [zBj H];simp only [List.map_append,List.map_cons,List.map_nil];rw [zBk (by omega)]
 split
 ·exact zL4 H _ _ _ _
 ·rfl
end
theorem zKZ (own:Int) (nm:List ByteArray) (s:Nat):∀ (n:Nat) (t:Tr n) (a:Nat),cod own nm n t (a+s)=(cod own nm n t a).map (shf s)
 | 0,t,_=>Empty.elim t
 | n+1,t,a=>zKc (zKZ own nm s n) _ _ _ _
end Go.Proofs.YtpkdhcijcndgnaaGreatDoor.Wf
namespace Go.Proofs.YtpkdhcijcndgnaaGreatDoor
open Tryz
open Go.RowKit
variable {w:World} {b ck:Nat} {es:Array MapEntry} {P:Program}
theorem zGI (id:Int) (w:World) (hN:NmAt w):CR 37 #[.int .i64 id] w (.tuple #[.agg (zDC id).toArray,.bool (zAz id)]):=by
 unfold zDC;by_cases h0:id<0
 ·have e:zAz id=false:=by unfold zAz;rw [decide_eq_false (by omega)];rfl
  rw [e];exact zMw id w hN h0
 by_cases h1:63<=id
 ·have e:zAz id=false:=by unfold zAz;rw [decide_eq_false (p:=id<63) (by omega),Bool.false_and,Bool.and_false]
  rw [e];exact zKl id w hN h1
 by_cases he:zFN id=[]
 ·have e:zAz id=false:=by unfold zAz;rw [he];simp
  rw [e];exact zMS id w hN (by omega) (by omega) he
 ·have e:zAz id=true:=by
   unfold zAz;rw [decide_eq_true (by omega),decide_eq_true (by omega)];cases hx:zFN id with
   | nil=>exact absurd hx he
   | cons a t=>rfl
  rw [e,if_pos rfl];exact zNk id w hN (by omega) (by omega) he
def apl (id n:Int):Bool:=zAz id && ((zAN id).c == 4 && (decide ((zAN id).l<=n) && decide (n<=(zAN id).m)))
theorem zFd (id n:Int) (w:World) (hN:NmAt w):CR 70 #[.int .i64 id,.int .i64 n] w (.bool (apl id n)):=by
 have BY:=zGI id w hN;unfold zDC at BY;unfold apl;cases hk:zAz id with
 | false =>
  rw [hk,if_neg (by simp)] at BY;unfold zero6 at BY;clear hk hN;go_enter func70,ntmps70;go_wp2_with fail
  refine BY.mono ?_;rintro e w1 ⟨rfl,hb1⟩;have pZ:=AtL.new0 w1 66 (sg6 0 0 ⟨#[]⟩ 0 0 ⟨#[]⟩);have hB1:=zAJ hb1 (.cells (sg6 0 0 ⟨#[]⟩ 0 0 ⟨#[]⟩).toArray 66);obtain ⟨b0,b1,b2,b3,b4,b5,k0,k1,k2,k3,k4,k5⟩:=at6 pZ;clear BY;go_wp2;go_ret;exact ⟨by simp,(clB hb1)⟩
 | true =>
  rw [hk,if_pos rfl] at BY;clear hk hN;generalize zAN id=s at *;generalize (⟨(zFN id).toArray⟩:ByteArray)=nm at *;cases h4:(s.c == 4) with
  | false =>
   go_enter func70,ntmps70;go_wp2_with fail
   refine BY.mono ?_;rintro e w1 ⟨rfl,hb1⟩;have pZ:=AtL.new0 w1 66 (sg6 0 0 ⟨#[]⟩ 0 0 ⟨#[]⟩);have hB1:=zAJ hb1 (.cells (sg6 0 0 ⟨#[]⟩ 0 0 ⟨#[]⟩).toArray 66);have hth:World.there (w1.alloc (.cells (sg6 0 0 ⟨#[]⟩ 0 0 ⟨#[]⟩).toArray 66)) w1.heap.size 0 (sg6 id s.c nm s.l s.m s.p).toArray.size:=pZ.there;clear BY;go_upto_region 2 with ((with_reducible refine wpList_store_mid ?_ 66 (.tmp 5) (.tmp 10) ?_ (w1.heap.size) 0 (sg6 id s.c nm s.l s.m s.p).toArray ?_ ?_ ?_ ?_ ?_ ?_);rfl;rfl;rfl;rfl;exact hth;kernel_rfl;exact zPn _ _ _ _ _ _)
   have pZ9:AtL ((w1.alloc (.cells (sg6 0 0 ⟨#[]⟩ 0 0 ⟨#[]⟩).toArray 66)).setCells w1.heap.size 0 (sg6 id s.c nm s.l s.m s.p)) w1.heap.size (sg6 id s.c nm s.l s.m s.p):=pZ.setAll rfl;have hB9:Below w.heap.size w ((w1.alloc (.cells (sg6 0 0 ⟨#[]⟩ 0 0 ⟨#[]⟩).toArray 66)).setCells w1.heap.size 0 (sg6 id s.c nm s.l s.m s.p)):=zAt hB1 hb1.size _ 0;generalize World.setCells (w1.alloc (.cells (sg6 0 0 ⟨#[]⟩ 0 0 ⟨#[]⟩).toArray 66)) w1.heap.size 0 (sg6 id s.c nm s.l s.m s.p)=W9 at *;obtain ⟨b0,b1,b2,b3,b4,b5,k0,k1,k2,k3,k4,k5⟩:=at6 pZ9;go_wp2;go_ret;exact ⟨by simp,hB9⟩
  | true =>
   by_cases hl:s.l<=n
   ·by_cases hm:n<=s.m
    ·go_enter func70,ntmps70;go_wp2_with fail
     refine BY.mono ?_;rintro e w1 ⟨rfl,hb1⟩;have pZ:=AtL.new0 w1 66 (sg6 0 0 ⟨#[]⟩ 0 0 ⟨#[]⟩);have hB1:=zAJ hb1 (.cells (sg6 0 0 ⟨#[]⟩ 0 0 ⟨#[]⟩).toArray 66);have hth:World.there (w1.alloc (.cells (sg6 0 0 ⟨#[]⟩ 0 0 ⟨#[]⟩).toArray 66)) w1.heap.size 0 (sg6 id s.c nm s.l s.m s.p).toArray.size:=pZ.there;clear BY;go_upto_region 2 with ((with_reducible refine wpList_store_mid ?_ 66 (.tmp 5) (.tmp 10) ?_ (w1.heap.size) 0 (sg6 id s.c nm s.l s.m s.p).toArray ?_ ?_ ?_ ?_ ?_ ?_);rfl;rfl;rfl;rfl;exact hth;kernel_rfl;exact zPn _ _ _ _ _ _)
     have pZ9:AtL ((w1.alloc (.cells (sg6 0 0 ⟨#[]⟩ 0 0 ⟨#[]⟩).toArray 66)).setCells w1.heap.size 0 (sg6 id s.c nm s.l s.m s.p)) w1.heap.size (sg6 id s.c nm s.l s.m s.p):=pZ.setAll rfl;have hB9:Below w.heap.size w ((w1.alloc (.cells (sg6 0 0 ⟨#[]⟩ 0 0 ⟨#[]⟩).toArray 66)).setCells w1.heap.size 0 (sg6 id s.c nm s.l s.m s.p)):=zAt hB1 hb1.size _ 0;generalize World.setCells (w1.alloc (.cells (sg6 0 0 ⟨#[]⟩ 0 0 ⟨#[]⟩).toArray 66)) w1.heap.size 0 (sg6 id s.c nm s.l s.m s.p)=W9 at *;obtain ⟨b0,b1,b2,b3,b4,b5,k0,k1,k2,k3,k4,k5⟩:=at6 pZ9;go_wp2;go_ret;exact ⟨by simp [hl,hm],hB9⟩
    ·go_enter func70,ntmps70;go_wp2_with fail
     refine BY.mono ?_;rintro e w1 ⟨rfl,hb1⟩;have pZ:=AtL.new0 w1 66 (sg6 0 0 ⟨#[]⟩ 0 0 ⟨#[]⟩);have hB1:=zAJ hb1 (.cells (sg6 0 0 ⟨#[]⟩ 0 0 ⟨#[]⟩).toArray 66);have hth:World.there (w1.alloc (.cells (sg6 0 0 ⟨#[]⟩ 0 0 ⟨#[]⟩).toArray 66)) w1.heap.size 0 (sg6 id s.c nm s.l s.m s.p).toArray.size:=pZ.there;clear BY;go_upto_region 2 with ((with_reducible refine wpList_store_mid ?_ 66 (.tmp 5) (.tmp 10) ?_ (w1.heap.size) 0 (sg6 id s.c nm s.l s.m s.p).toArray ?_ ?_ ?_ ?_ ?_ ?_);rfl;rfl;rfl;rfl;exact hth;kernel_rfl;exact zPn _ _ _ _ _ _)
     have pZ9:AtL ((w1.alloc (.cells (sg6 0 0 ⟨#[]⟩ 0 0 ⟨#[]⟩).toArray 66)).setCells w1.heap.size 0 (sg6 id s.c nm s.l s.m s.p)) w1.heap.size (sg6 id s.c nm s.l s.m s.p):=pZ.setAll rfl;have hB9:Below w.heap.size w ((w1.alloc (.cells (sg6 0 0 ⟨#[]⟩ 0 0 ⟨#[]⟩).toArray 66)).setCells w1.heap.size 0 (sg6 id s.c nm s.l s.m s.p)):=zAt hB1 hb1.size _ 0;generalize World.setCells (w1.alloc (.cells (sg6 0 0 ⟨#[]⟩ 0 0 ⟨#[]⟩).toArray 66)) w1.heap.size 0 (sg6 id s.c nm s.l s.m s.p)=W9 at *;obtain ⟨b0,b1,b2,b3,b4,b5,k0,k1,k2,k3,k4,k5⟩:=at6 pZ9;go_wp2;go_ret;exact ⟨by simp [hl],hB9⟩
   ·go_enter func70,ntmps70;go_wp2_with fail
    refine BY.mono ?_;rintro e w1 ⟨rfl,hb1⟩;have pZ:=AtL.new0 w1 66 (sg6 0 0 ⟨#[]⟩ 0 0 ⟨#[]⟩);have hB1:=zAJ hb1 (.cells (sg6 0 0 ⟨#[]⟩ 0 0 ⟨#[]⟩).toArray 66);have hth:World.there (w1.alloc (.cells (sg6 0 0 ⟨#[]⟩ 0 0 ⟨#[]⟩).toArray 66)) w1.heap.size 0 (sg6 id s.c nm s.l s.m s.p).toArray.size:=pZ.there;clear BY;go_upto_region 2 with ((with_reducible refine wpList_store_mid ?_ 66 (.tmp 5) (.tmp 10) ?_ (w1.heap.size) 0 (sg6 id s.c nm s.l s.m s.p).toArray ?_ ?_ ?_ ?_ ?_ ?_);rfl;rfl;rfl;rfl;exact hth;kernel_rfl;exact zPn _ _ _ _ _ _)
    have pZ9:AtL ((w1.alloc (.cells (sg6 0 0 ⟨#[]⟩ 0 0 ⟨#[]⟩).toArray 66)).setCells w1.heap.size 0 (sg6 id s.c nm s.l s.m s.p)) w1.heap.size (sg6 id s.c nm s.l s.m s.p):=pZ.setAll rfl;have hB9:Below w.heap.size w ((w1.alloc (.cells (sg6 0 0 ⟨#[]⟩ 0 0 ⟨#[]⟩).toArray 66)).setCells w1.heap.size 0 (sg6 id s.c nm s.l s.m s.p)):=zAt hB1 hb1.size _ 0;generalize World.setCells (w1.alloc (.cells (sg6 0 0 ⟨#[]⟩ 0 0 ⟨#[]⟩).toArray 66)) w1.heap.size 0 (sg6 id s.c nm s.l s.m s.p)=W9 at *;obtain ⟨b0,b1,b2,b3,b4,b5,k0,k1,k2,k3,k4,k5⟩:=at6 pZ9;go_wp2;go_ret;exact ⟨by simp;omega,hB9⟩
def FoldL (w:World) (b o:Nat) (F:List (Int × Int)):Prop:=∃ av cap,w.cell? ⟨b,o,none⟩=some (.slice av F.length cap)/\∀ i (h:i<F.length),∃ bb off,av=some ⟨bb,off,none⟩/\w.cell? ⟨bb,off+i * 2,none⟩=some (.int .i64 (F[i]).1)/\w.cell? ⟨bb,off+i * 2+1,none⟩=some (.int .i64 (F[i]).2)
theorem FoldL.below {w':World} {o:Nat} {F:List (Int × Int)} (h:FoldL w b o F) (hb:Below w.heap.size w w'):FoldL w' b o F:=by
 obtain ⟨av,cap,h1,h2⟩:=h;refine ⟨av,cap,zAC hb h1,λi hi=>?_⟩;obtain ⟨bb,off,e,h3,h4⟩:=h2 i hi;exact ⟨bb,off,e,zAC hb h3,zAC hb h4⟩
theorem zJX (b o:Nat) (w:World):CR 109 #[.pointer (some ⟨b,o,none⟩),.int .i64 0] w (.tuple #[.agg #[.int .i64 0,.int .i64 0],.bool false]):=by
 have pZ:=AtL.new0 w 177 [.int .i64 0,.int .i64 0];have hB:=zAJ (Below.refl _ w) (.cells #[.int .i64 0,.int .i64 0] 177);obtain ⟨b0,b1,k0,k1⟩:=pZ.two;clear pZ;go_enter func109,ntmps109;go_upto_region 1 with fail
 generalize (w.alloc (.cells #[.int .i64 0,.int .i64 0] 177))=W at *;go_wp2;refine bodyPost_ret (v:=.tuple #[.agg #[.int .i64 0,.int .i64 0],.bool false]) (by simp [results,results109,go_sem,b0,b1]) rfl ⟨rfl,(clB hB)⟩
theorem zLZ (b o:Nat) (F:List (Int × Int)) (i:Nat) (w:World) (hF:FoldL w b o F) (hi:i<F.length) (hl:F.length<=1000000):CR 109 #[.pointer (some ⟨b,o,none⟩),.int .i64 ((i:Int)+1)] w (.tuple #[.agg #[.int .i64 (F[i]).1,.int .i64 (F[i]).2],.bool true]):=by
 have pZ:=AtL.new0 w 177 [.int .i64 0,.int .i64 0];have hB:=zAJ (Below.refl _ w) (.cells #[.int .i64 0,.int .i64 0] 177);obtain ⟨av,cap,h1,h2⟩:=hF.below hB;obtain ⟨bb,off,rfl,h3,h4⟩:=h2 i hi;obtain ⟨b0,b1,k0,k1⟩:=pZ.two;have n0:((i:Int)+1 == 0)=false:=by simp;omega
 have w1:IntKind.i64.wrap ((i:Int)+1 - 1)=(i:Int):=by rw [IntKind.wrap_i64];omega
 have w2:IntKind.i64.wrap (i:Int)=(i:Int):=by rw [IntKind.wrap_i64];omega
 have l0:(0:Int)<=(i:Int):=by omega
 have l1:(i:Int)<(F.length:Int):=by omega
 generalize (F[i]).1=x at *;generalize (F[i]).2=y at *;clear pZ h2 hF hi hl;go_enter func109,ntmps109;go_upto_region 1 with fail
 generalize (w.alloc (.cells #[.int .i64 0,.int .i64 0] 177))=W at *;go_wp2;refine bodyPost_ret (v:=.tuple #[.agg #[.int .i64 x,.int .i64 y],.bool true]) (by simp [results,results109,go_sem,b0,b1]) rfl ⟨rfl,(clB hB)⟩
def fld (id:Int):Bool:=decide ((1<=id/\id<=15) \/ (20<=id/\id<=24))
def zAE (id n k:Int):List Value:=[.int .i64 id,.int .i64 0,.int .i64 n,.int .i64 1,.int .i64 k,.int .i64 0,.int .i64 0,.string ⟨#[]⟩,.bool false,.int .i64 0,.int .i64 0,.int .i64 0,.int .i64 0,.string ⟨#[]⟩,.bool false,.int .i64 0,.bool false,.bool false,.bool false,.int .i64 0,.int .i64 0]
theorem zBZ (id n k:Int):(zAE id n k).toArray.all (·.oneCell')=true:=by
 apply all_oneCell_toArray
 intro v hv;simp only [zAE,List.mem_cons,List.not_mem_nil,or_false] at hv;rcases hv with rfl | rfl | rfl | rfl | rfl | rfl | rfl | rfl | rfl | rfl | rfl | rfl | rfl | rfl | rfl | rfl | rfl | rfl | rfl | rfl | rfl <;> rfl
open Go.ChangeMaps (setBlock heap_setBlock_same heap_setBlock_other)
open Go.ChangeShapes Go.WideShapes Go.MapKept
theorem zDR (hb:w.heap[b]? = some (.map es ck)) (o:Obj):w.grownBy (setBlock w b o) (some b) :=
 ⟨rfl,rfl,rfl,by simp [setBlock],λi _ hi=>heap_setBlock_other hb _ (λe=>hi (by rw [e]))⟩
theorem zFb {t k e:TypeId} (ht:P.underlying t=some (.map k e)) (hb:w.heap[b]? = some (.map es ck)) {key:Value} (val:Value)
  (hc:(Instr.checkKey false 10000 k key).run P w=.ok () w) (hf:(Instr.findKey k key es.toList).run P w=.ok none w) :
  (Instr.mapUpdate t (.map (some b)) key val).run P w=.ok () (setBlock w b (.map (es.push ⟨key,val,ck⟩) (ck+1))):=by
 simp [Instr.mapUpdate,run_underlying ht,MapKept.run_getObj_map hb,hc,hf,MapKept.run_setObj_map _ hb,Result.andThen,setBlock]
theorem zA2 {t k e:TypeId} (ht:P.underlying t=some (.map k e)) (hb:w.heap[b]? = some (.map es ck)) {key v:Value} {j:Nat}
  (hc:(Instr.checkKey es.isEmpty 10000 k key).run P w=.ok () w) (hf:(Instr.findKey k key es.toList).run P w=.ok (some (j,v)) w) :
  (Instr.lookup t (.map (some b)) key true).run P w=.ok (.tuple #[v,.bool true]) w:=by
 simp [Instr.lookup,run_underlying ht,MapKept.run_getObj_map hb,hc,hf,Result.andThen]
theorem zDE {t k e:TypeId} (ht:P.underlying t=some (.map k e)) (hb:w.heap[b]? = some (.map es ck)) {key z:Value}
  (hc:(Instr.checkKey es.isEmpty 10000 k key).run P w=.ok () w) (hf:(Instr.findKey k key es.toList).run P w=.ok none w) (hz:(zeroValue e).run P w=.ok z w) :
  (Instr.lookup t (.map (some b)) key true).run P w=.ok (.tuple #[z,.bool false]) w:=by
 simp [Instr.lookup,run_underlying ht,MapKept.run_getObj_map hb,hc,hf,hz,Result.andThen]
def zON:List (Int × Nat)->Array MapEntry
 | []=>#[]
 | (k,f)::r=>(zON r).push ⟨.int .i64 k,.func (.func f) #[] #[],r.length⟩
def KM (w:World) (b:Nat) (l:List (Int × Nat)):Prop:=w.heap[b]? = some (.map (zON l) l.length)
theorem zCc (k:Int):∀ (l:List MapEntry) (i:Nat),(∀ e ∈ l,∃ j,e.key=.int .i64 j/\j ≠ k)->Instr.findNow (.int .i64) (.int .i64 k) l i=some none
 | [],_,_=>rfl
 | e::r,i,h=>by
  obtain ⟨j,hj,hne⟩:=h e (List.mem_cons_self ..);have hs:Instr.sameNow (.int .i64) (.int .i64 k) e.key=some false:=by
   rw [hj];simp [Instr.sameNow];omega
  simp only [Instr.findNow,hs];exact zCc k r (i+1) λe he=>h e (List.mem_cons_of_mem _ he)
theorem zEA (k:Int):∀ l:List (Int × Nat),(∀ p ∈ l,p.1 ≠ k)->∀ e ∈ (zON l).toList,∃ j,e.key=.int .i64 j/\j ≠ k
 | [],_,e,he=>by simp [zON] at he
 | (q,f)::r,h,e,he=>by
  simp only [zON,Array.toList_push,List.mem_append,List.mem_singleton] at he;rcases he with he | rfl
  ·exact zEA k r (λp hp=>h p (List.mem_cons_of_mem _ hp)) e he
  ·exact ⟨q,rfl,h (q,f) (List.mem_cons_self ..)⟩
theorem zDW (em:Bool) (k:Int) (w:World):(Instr.checkKey em 10000 3 (.int .i64 k)).run prog w=.ok () w:=by kernel_rfl
theorem zKK (l:List (Int × Nat)) (k:Int) (h:∀ p ∈ l,p.1 ≠ k) (w:World):(Instr.findKey 3 (.int .i64 k) (zON l).toList).run prog w=.ok none w:=by
 have h1:=zCc k (zON l).toList 0 (zEA k l h);simp [Instr.findKey,go_sem,h1]
theorem zDV:prog.underlying 199=some (.map 3 197):=by kernel_rfl
theorem zF6 {ops:Array Oper} {rest:List Oper} {op:Oper} {a:Act} {Q:Exit->Act->World->Prop} (hgd:op.guard=none) (m x v:Operand) (ho:op.op=.insert 199 m x v) (b:Nat) (hm:a.eval m=.map (some b)) (k:Int) (hx:a.eval x=.int .i64 k) (f:Nat) (hv:a.eval v=.func (.func f) #[] #[])
  (r:List (Int × Nat)) (h:KM w b r) (hn:∀ p ∈ r,p.1 ≠ k)
  (hK:∀ w',KM w' b ((k,f)::r)->w.grownBy w' (some b)->wpList prog ops Q rest (a.put op.dst undef) w'):wpList prog ops Q (op::rest) a w:=by
 refine wpList_plain hgd λK' hK'=>?_
 have hrun:=zFb zDV h (.func (.func f) #[] #[]) (zDW false k w) (zKK r k hn w);unfold Oper.wp;simp [execOp,ho,hm,hx,hv,hrun,Result.andThen];exact hK' _ _ (hK _ (heap_setBlock_same h _) (zDR h _))
def kT:List (Int × Nat):=[(24,151),(23,150),(22,149),(21,148),(20,147),(15,146),(14,145),(13,144),(12,143),(11,142),(10,141),(9,140),(8,139),(7,138),(6,137),(5,136),(4,135),(3,134),(2,133),(1,132)]
theorem zAX (w:World):Calls prog 130 #[] w λe w'=>(∃ b,e=.returned (.map (some b))/\KM w' b kT)/\Below w.heap.size w w':=by
 have hM:KM (w.alloc (.map #[] 0)) w.heap.size []:=by
  show (w.alloc (.map #[] 0)).heap[w.heap.size]? = some (.map #[] 0)
  exact Array.getElem?_push_size
 have hB:=zAJ (Below.refl _ w) (.map #[] 0);have hmk:∀ w:World,(Instr.makeMap 199 none).run prog w=.ok (.map (some w.heap.size)) (w.alloc (.map #[] 0)):=λw=>by kernel_rfl
 go_enter func130,ntmps130;go_upto_region 1 with fail
 go_wp2_with (refine zF6 rfl _ _ _ rfl w.heap.size rfl _ rfl _ rfl _ hM (by decide) ?_;clear hM;intro wn hM gn;replace hB:=hB.grown gn hB.size (λk e=>by cases e;exact Nat.le_refl _);clear gn)
 go_ret;exact ⟨⟨_,rfl,hM⟩,hB⟩
end Go.Proofs.YtpkdhcijcndgnaaGreatDoor
namespace Go.Proofs.YtpkdhcijcndgnaaGreatDoor.Wc
def zHn (F:List (Nat × Int)):Nat->Nat->List Int
 | 0,_=>[]
 | _+1,0=>[]
 | f+1,k+1=>match F[k]? with
  | none=>[]
  | some x=>zHn F f x.1++[x.2]
structure Rows (F:List (Nat × Int)):Prop where
 ahead:∀ (k:Nat) (x:Nat × Int),F[k]? = some x->x.1<=k
 once:∀ (i j:Nat) (x:Nat × Int),F[i]? = some x->F[j]? = some x->i=j
theorem zB4 (F:List (Nat × Int)) (f:Nat):zHn F f 0=[]:=by cases f <;> rfl
theorem zAr (F:List (Nat × Int)) (f k:Nat) (x:Nat × Int) (h:F[k]? = some x):zHn F (f+1) (k+1)=zHn F f x.1++[x.2]:=by
 simp only [zHn,h]
theorem zLL {F:List (Nat × Int)} (h:Rows F):∀ (f m n:Nat),m<=f->n<=f->m<=F.length->n<=F.length->zHn F f m=zHn F f n->m=n:=by
 intro f;induction f with
 | zero=>intro m n hm hn _ _ _;omega
 | succ f ih =>
  intro m n hm hn hmF hnF e;cases m with
  | zero =>
   cases n with
   | zero=>rfl
   | succ k =>
    obtain ⟨x,hx⟩:∃ x,F[k]? = some x:=⟨_,List.getElem?_eq_getElem (by omega)⟩
    rw [zB4,zAr F f k x hx] at e;simp at e
  | succ j =>
   obtain ⟨y,hy⟩:∃ y,F[j]? = some y:=⟨_,List.getElem?_eq_getElem (by omega)⟩
   cases n with
   | zero =>
    rw [zB4,zAr F f j y hy] at e;simp at e
   | succ k =>
    obtain ⟨x,hx⟩:∃ x,F[k]? = some x:=⟨_,List.getElem?_eq_getElem (by omega)⟩
    rw [zAr F f j y hy,zAr F f k x hx] at e;obtain ⟨e1,e2⟩:=List.append_inj' e rfl;have a1:=h.ahead j y hy;have a2:=h.ahead k x hx;have e3:=ih y.1 x.1 (by omega) (by omega) (by omega) (by omega) e1;have e4:y.2=x.2:=by simpa using e2
    have e5:y=x:=Prod.ext e3 e4;rw [e5] at hy;rw [h.once j k x hy hx]
theorem zKr {F:List (Nat × Int)} (h:Rows F) (x:Nat × Int):∀ (f n:Nat),n<=F.length->zHn (F++[x]) f n=zHn F f n:=by
 intro f;induction f with
 | zero=>intro n _;rfl
 | succ f ih =>
  intro n hn;cases n with
  | zero=>rfl
  | succ k =>
   obtain ⟨y,hy⟩:∃ y,F[k]? = some y:=⟨_,List.getElem?_eq_getElem (by omega)⟩
   have hy2:(F++[x])[k]? = some y:=by rw [List.getElem?_append_left (by omega)];exact hy
   have a:=h.ahead k y hy;rw [zAr F f k y hy,zAr _ f k y hy2,ih y.1 (by omega)]
theorem Rows.app {F:List (Nat × Int)} (h:Rows F) {x:Nat × Int} (hx:x.1<=F.length) (hn:∀ k:Nat,F[k]? ≠ some x):Rows (F++[x]):=by
 have old:∀ (k:Nat) (y:Nat × Int),(F++[x])[k]? = some y->F[k]? = some y \/ (k=F.length/\y=x):=by
  intro k y e;by_cases hk:k<F.length
  ·rw [List.getElem?_append_left hk] at e;exact Or.inl e
  ·rw [List.getElem?_append_right (by omega)] at e;by_cases h0:k - F.length=0
   ·rw [h0] at e;simp at e;exact Or.inr ⟨by omega,e.symm⟩
   ·rw [List.getElem?_eq_none (by simp;omega)] at e;cases e
 refine ⟨λk y e=>?_,λi j y e1 e2=>?_⟩
 ·rcases old k y e with e | ⟨rfl,rfl⟩
  ·exact h.ahead k y e
  ·exact hx
 ·rcases old i y e1 with q1 | ⟨i1,y1⟩
  ·rcases old j y e2 with q2 | ⟨j1,y1⟩
   ·exact h.once i j y q1 q2
   ·rw [y1] at q1;exact absurd q1 (hn i)
  ·rcases old j y e2 with q2 | ⟨j1,_⟩
   ·rw [y1] at q2;exact absurd q2 (hn j)
   ·rw [i1,j1]
theorem Rows.nil:Rows []:=⟨λk x e=>by simp at e,λi j x e=>by simp at e⟩
theorem zCv {F:List (Nat × Int)} (h:Rows F):∀ (f n g:Nat),n<=f->n<=g->n<=F.length->zHn F f n=zHn F g n:=by
 intro f;induction f with
 | zero =>
  intro n g hn _ _;have e:n=0:=by omega
  rw [e,zB4,zB4]
 | succ f ih =>
  intro n g hn hg hF;cases n with
  | zero=>rw [zB4,zB4]
  | succ k =>
   obtain ⟨y,hy⟩:∃ y,F[k]? = some y:=⟨_,List.getElem?_eq_getElem (by omega)⟩
   have a:=h.ahead k y hy;cases g with
   | zero=>omega
   | succ g=>rw [zAr F f k y hy,zAr F g k y hy,ih y.1 g (by omega) (by omega) (by omega)]
end Go.Proofs.YtpkdhcijcndgnaaGreatDoor.Wc
namespace Go.Proofs.YtpkdhcijcndgnaaGreatDoor
open Tryz
open Go.RowKit
open Go.ChangeMaps (setBlock heap_setBlock_same heap_setBlock_other)
open Go.ChangeShapes Go.WideShapes Go.MapKept
variable {w w' w'':World} {S T:List Nat} {b:Nat} {F:List (Nat × Int)} {v:Value}
abbrev fr2 (x:Nat × Int):Value:=.agg #[.int .i64 x.1,.int .i64 x.2]
def zHm:Nat->List (Nat × Int)->List MapEntry
 | _,[]=>[]
 | i,x::r=>⟨fr2 x,.int .i64 ((i:Int)+1),i⟩::zHm (i+1) r
theorem zGm:∀ (F:List (Nat × Int)) (i:Nat) (x:Nat × Int),zHm i (F++[x])=zHm i F++[⟨fr2 x,.int .i64 (((i+F.length:Nat):Int)+1),i+F.length⟩]
 | [],i,x=>rfl
 | y::r,i,x=>by
  show _::zHm (i+1) (r++[x])=_::(zHm (i+1) r++_)
  rw [zGm r (i+1) x];have e:i+1+r.length=i+(r.length+1):=by omega
  rw [e];rfl
def FM (w:World) (b:Nat) (F:List (Nat × Int)):Prop:=∃ es:Array MapEntry,w.heap[b]? = some (.map es F.length)/\es.toList=zHm 0 F
theorem FM.lt (h:FM w b F):b<w.heap.size:=by
 obtain ⟨es,h,_⟩:=h;rcases Nat.lt_or_ge b w.heap.size with g | g
 ·exact g
 ·rw [Array.getElem?_eq_none g] at h;cases h
theorem FM.below (h:FM w b F) (hb:Below w.heap.size w w'):FM w' b F:=by
 have hlt:=h.lt;obtain ⟨es,h1,h2⟩:=h;exact ⟨es,by rw [hb.block b hlt];exact h1,h2⟩
theorem zSK (em:Bool) (x y:Int) (w:World):(Instr.checkKey em 10000 177 (.agg #[.int .i64 x,.int .i64 y])).run prog w=.ok () w:=by kernel_rfl
theorem zPP (x y x' y':Int) (w:World):(Op.equal 177 (.agg #[.int .i64 x,.int .i64 y]) (.agg #[.int .i64 x',.int .i64 y'])).run prog w=.ok ((x == x') && (y == y')) w:=by
 show (Op.equalIn (9998+2) 177 _ _).run _ _=_
 by_cases h1:x=x'
 ·by_cases h2:y=y'
  ·simp [go_sem,h1,h2]
  ·simp [go_sem,h1,h2]
 ·simp [go_sem,h1]
theorem zNl (x y:Nat × Int) (w:World):(Op.equal 177 (fr2 x) (fr2 y)).run prog w=.ok (y == x) w:=by
 rw [zPP];congr 1
 obtain ⟨a,b⟩:=x;obtain ⟨c,d⟩:=y;rw [Bool.eq_iff_iff];simp only [Bool.and_eq_true,beq_iff_eq,Prod.mk.injEq];omega
theorem zPr (x:Nat × Int) (w:World):∀ (F:List (Nat × Int)) (i:Nat),(Instr.findAsking 177 (fr2 x) (zHm i F) i).run prog w=.ok ((F.findIdx? (· == x)).map λk=>(i+k,Value.int .i64 (((i+k:Nat):Int)+1))) w
 | [],i=>rfl
 | y::r,i=>by
  have h:=zPr x w r (i+1);have e:=zNl x y w;unfold zHm;rw [List.findIdx?_cons];cases hq:(y == x) with
  | true =>
   rw [hq] at e;simp [Instr.findAsking,e,Result.andThen]
  | false =>
   rw [hq] at e;simp [Instr.findAsking,e,Result.andThen,h];cases r.findIdx? (· == x) with
   | none=>rfl
   | some k =>
    simp;omega
theorem zRx (x:Nat × Int) (F:List (Nat × Int)) (w:World):(Instr.findKey 177 (fr2 x) (zHm 0 F)).run prog w=.ok ((F.findIdx? (· == x)).map λk=>(k,Value.int .i64 ((k:Int)+1))) w:=by
 have h:=zPr x w F 0;cases F with
 | nil=>simp [Instr.findKey,go_sem,zHm,Instr.findNow]
 | cons y r =>
  simp [Instr.findKey,go_sem,zHm,Instr.findNow,Instr.sameNow];simpa [zHm] using h
structure Fr (S:List Nat) (w w':World):Prop where
 os:w'.os=w.os
 tape:w'.tape=w.tape
 output:w'.output=w.output
 size:w.heap.size<=w'.heap.size
 block:∀ k:Nat,k<w.heap.size->k ∉ S->w'.heap[k]? = w.heap[k]?
theorem Fr.refl (S:List Nat) (w:World):Fr S w w:=⟨rfl,rfl,rfl,Nat.le_refl _,λ_ _ _=>rfl⟩
theorem Fr.of_below (S:List Nat) {w w':World} (h:Below w.heap.size w w'):Fr S w w':=⟨h.os,h.tape,h.output,h.size,λk hk _=>h.block k hk⟩
theorem Fr.of_grown {row:Option Nat} (h:w.grownBy w' row) (hr:∀ k,row=some k->k ∈ S):Fr S w w' :=
 ⟨h.os,h.tape,h.output,h.size,λk hk hn=>h.block k hk (λe=>hn (hr k e.symm))⟩
theorem Fr.trans (h:Fr S w w') (h':Fr S w' w''):Fr S w w'' :=
 ⟨h'.os.trans h.os,h'.tape.trans h.tape,h'.output.trans h.output,Nat.le_trans h.size h'.size,λk hk hn=>(h'.block k (Nat.lt_of_lt_of_le hk h.size) hn).trans (h.block k hk hn)⟩
theorem Fr.mono (h:Fr S w w') (hs:∀ k ∈ S,k ∈ T):Fr T w w':=⟨h.os,h.tape,h.output,h.size,λk hk hn=>h.block k hk (λe=>hn (hs k e))⟩
theorem Fr.new (h:Fr S w w') (h':Fr T w' w'') (hs:∀ k ∈ T,k ∈ S \/ w.heap.size<=k):Fr S w w'' :=
 ⟨h'.os.trans h.os,h'.tape.trans h.tape,h'.output.trans h.output,Nat.le_trans h.size h'.size,λk hk hn=>(h'.block k (Nat.lt_of_lt_of_le hk h.size) (λe=>(hs k e).elim hn (λg=>absurd hk (Nat.not_lt.2 g)))).trans (h.block k hk hn)⟩
theorem Fr.to_below (h:Fr S w w') (hs:∀ k ∈ S,w.heap.size<=k):Below w.heap.size w w' :=
 ⟨h.os,h.tape,h.output,h.size,λk hk=>h.block k hk (λe=>absurd hk (Nat.not_lt.2 (hs k e)))⟩
theorem zA1 {o:Nat} (h:w.cell? ⟨b,o,none⟩=some v):b<w.heap.size:=by
 rcases Nat.lt_or_ge b w.heap.size with g | g
 ·exact g
 ·unfold World.cell? at h;simp only [Array.getElem?_eq_none g] at h;cases h
theorem Fr.cell (h:Fr S w w') {b o:Nat} {v:Value} (hc:w.cell? ⟨b,o,none⟩=some v) (hn:b ∉ S):w'.cell? ⟨b,o,none⟩=some v:=by
 rw [<-hc];unfold World.cell?;rw [h.block b (zA1 hc) hn]
theorem Fr.frozen (h:Fr S w w') {b o:Nat} (hb:b<w.heap.size) (hn:b ∉ S):w'.frozen? ⟨b,o,none⟩=w.frozen? ⟨b,o,none⟩:=by
 unfold World.frozen?;rw [h.block b hb hn]
theorem Fr.range (h:Fr S w w') {b o:Nat} {l:List Value} (hr:w.rangeAt b o l) (hn:b ∉ S):w'.rangeAt b o l:=λj v hv=>h.cell (hr j v hv) hn
theorem Fr.fm (h:Fr S w w') {b:Nat} {F:List (Nat × Int)} (hm:FM w b F) (hn:b ∉ S):FM w' b F:=by
 have hlt:=hm.lt;obtain ⟨es,h1,h2⟩:=hm;exact ⟨es,by rw [h.block b hlt hn];exact h1,h2⟩
def zBh:List (Nat × Int)->List Value
 | []=>[]
 | x::r=>.int .i64 x.1 :: .int .i64 x.2::zBh r
theorem zFD:∀ F:List (Nat × Int),(zBh F).length=F.length * 2
 | []=>rfl
 | x::r=>by simp [zBh,zFD r];omega
theorem zDH:∀ (F G:List (Nat × Int)),zBh (F++G)=zBh F++zBh G
 | [],G=>rfl
 | x::r,G=>by simp [zBh,zDH r G]
theorem zEY:∀ (F:List (Nat × Int)) (i:Nat) (h:i<F.length),(zBh F)[i * 2]? = some (.int .i64 (F[i]).1)/\(zBh F)[i * 2+1]? = some (.int .i64 (F[i]).2)
 | x::r,0,_=>⟨rfl,rfl⟩
 | x::r,i+1,h=>by
  have:=zEY r i (by simpa using h);have e:(i+1) * 2=i * 2+2:=by omega
  rw [e];exact this
structure FS (w:World) (b mb:Nat) (lv:Value) (F:List (Nat × Int)):Prop where
 hd:w.cell? ⟨b,1,none⟩=some lv
 hf:w.frozen? ⟨b,1,none⟩=false
 own:w.ownsRow (b+1) 177 2 lv F.length (zBh F)
 mp:w.cell? ⟨b,2,none⟩=some (.map (some mb))
 fm:FM w mb F
 lt:mb<b
theorem zAK {B:Nat} {T:TypeId} {k:Nat} {n:Nat} {xs:List Value} (h:w.ownsRow B T k v n xs) {g:Nat} (e:v.ownBlock=some g):B<=g/\g<w.heap.size:=by
 rcases h.2 with ⟨rfl,_⟩ | ⟨g',cap,cur,rfl,hb,hg,_⟩
 ·cases e
 ·have e2:g'=g:=by simpa [Value.ownBlock] using e
  subst e2;refine ⟨hb,?_⟩;rcases Nat.lt_or_ge g' w.heap.size with q | q
  ·exact q
  ·rw [Array.getElem?_eq_none q] at hg;cases hg
theorem zAP (h:Fr S w w') {B:Nat} {T:TypeId} {k:Nat} {v:Value} {n:Nat} {xs:List Value} (ho:w.ownsRow B T k v n xs) (hn:∀ g,v.ownBlock=some g->g ∉ S):w'.ownsRow B T k v n xs:=by
 have hb:=λ{g} (e:v.ownBlock=some g)=>zAK ho e
 refine ⟨ho.1,?_⟩;rcases ho.2 with q | ⟨g,cap,cur,rfl,hb1,hg,r1,r2,r3,r4⟩
 ·exact Or.inl q
 ·exact Or.inr ⟨g,cap,cur,rfl,hb1,by rw [h.block g (hb rfl).2 (hn g rfl)];exact hg,r1,r2,r3,r4⟩
theorem FS.list {mb:Nat} {lv:Value} (h:FS w b mb lv F):FoldL w b 1 (F.map λx=>((x.1:Int),x.2)):=by
 rcases h.own.2 with ⟨e,h0⟩ | ⟨g,cap,cur,e,hb1,hg,r1,r2,r3,r4⟩
 ·have hF:F=[]:=List.eq_nil_of_length_eq_zero h0;subst hF;refine ⟨none,0,by rw [h.hd,e];rfl,λi hi=>absurd hi (Nat.not_lt_zero _)⟩
 ·refine ⟨some ⟨g,0,none⟩,cap,by rw [h.hd,e];simp,λi hi=>⟨g,0,rfl,?_⟩⟩;have hi2:i<F.length:=by simpa using hi
  have hl:=zFD F;have hg2:∀ j v,(zBh F)[j]? = some v->w.cell? ⟨g,j,none⟩=some v:=by
   intro j v hv;have hj:j<F.length * 2:=by
    rw [<-hl];rcases Nat.lt_or_ge j (zBh F).length with q | q
    ·exact q
    ·rw [List.getElem?_eq_none q] at hv;cases hv
   rw [<-r4,List.getElem?_take_of_lt hj] at hv;unfold World.cell?;simp only [hg];simpa using hv
  obtain ⟨q1,q2⟩:=zEY F i hi2;have c1:=hg2 _ _ q1;have c2:=hg2 _ _ q2;simp only [List.getElem_map,Nat.zero_add];exact ⟨c1,c2⟩
