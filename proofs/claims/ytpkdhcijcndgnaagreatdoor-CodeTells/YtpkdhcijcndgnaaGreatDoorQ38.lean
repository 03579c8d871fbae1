/- KWhole, KRdc, KFurt, KHomP, KHom, KRtA. -/
import Derived.Test.YtpkdhcijcndgnaaGreatDoorQ37
set_option maxHeartbeats 8000000
set_option maxRecDepth 100000
set_option linter.unusedVariables false
namespace Go.Proofs.YtpkdhcijcndgnaaGreatDoor
open Tryz
open Go.RowKit
variable {w:World} {B G cap:Nat} {P:List (Wc.In × Value)} {L:List (Wc.In × List Int)}
theorem zEN:∀ (A:List (Wc.In × Value)) (i j:Nat) (h:i<A.length),j<23->(zAY A)[i * 23+j]? = (zAD (A[i]).1 (A[i]).2)[j]?
 | x::r,0,j,_,hj=>by
  show (zAD x.1 x.2++zAY r)[0 * 23+j]? = _
  rw [List.getElem?_append_left (by simp [zAD];omega)];simp
 | x::r,i+1,j,h,hj=>by
  have ih:=zEN r i j (by simpa using h) hj;show (zAD x.1 x.2++zAY r)[(i+1) * 23+j]? = _
  rw [List.getElem?_append_right (by simp [zAD];omega)];have e:(i+1) * 23+j - (zAD x.1 x.2).length=i * 23+j:=by simp [zAD];omega
  rw [e,ih];rfl
theorem OwnI.cell {n:Nat} {A:List (Wc.In × Value)} (h:OwnI w B (.slice (some ⟨G,0,none⟩) n cap) A) {i:Nat} (hi:i<A.length):w.rangeAt G (i * 23) (zAD (A[i]).1 (A[i]).2):=by
 intro j v hv;have hj:j<23:=by
  rcases Nat.lt_or_ge j 23 with q | q
  ·exact q
  ·rw [List.getElem?_eq_none (by simp [zAD];omega)] at hv;cases hv
 have hc:=h.cells (g:=G) rfl (i * 23+j) v (by rw [zEN A i j hi hj];exact hv);rwa [show (⟨G,0,none⟩:Addr).add (i * 23+j)=⟨G,i * 23+j,none⟩ from by
  simp [Addr.add];try (intro h0;omega)] at hc
theorem Tw.get:∀ (P:List (Wc.In × Value)) (L:List (Wc.In × List Int)),Tw w B P L->∀ (i:Nat) (h1:i<P.length) (h2:i<L.length),(P[i]).1=(L[i]).1/\TwR w B (P[i]).2 (L[i]).2:=by
 intro P;induction P with
 | nil=>intro L h i h1;cases h1
 | cons p r ih =>
  intro L h i h1 h2;cases L with
  | nil=>exact h.elim
  | cons x s =>
   cases i with
   | zero=>exact h.1
   | succ k=>exact ih s h.2 k (by simpa using h1) (by simpa using h2)
structure TwS (w:World) (B G cap:Nat) (P:List (Wc.In × Value)) (L:List (Wc.In × List Int)):Prop where
 own:OwnI w B (.slice (some ⟨G,0,none⟩) (L.length+2) cap) (P++[(zAG 771,zAH),(zAG 772,zAH)])
 tw:Tw w B P L
theorem TwS.at' (h:TwS w B G cap P L) {i:Nat} (hi:i<L.length):∃ g c,w.rangeAt G (i * 23) (zAD (L[i]).1 (.slice (some ⟨g,0,none⟩) (L[i]).2.length c))/\OwnZ w B (.slice (some ⟨g,0,none⟩) ((L[i]).2.length+2) c) ((L[i]).2++[771,772]):=by
 have hl:=Tw.len _ _ h.tw;obtain ⟨e1,g,c,e2,ho⟩:=Tw.get _ _ h.tw i (by omega) hi;have hr:=h.own.cell (i:=i) (by simp;omega);rw [List.getElem_append_left (by omega),e1,e2] at hr;exact ⟨g,c,hr,ho⟩
theorem TwS.rd (h:TwS w B G cap P L):RdC w (.slice (some ⟨G,0,none⟩) L.length cap) L:=by
 refine ⟨some ⟨G,0,none⟩,cap,rfl,λi hi=>?_⟩;obtain ⟨g,c,hr,ho⟩:=h.at' hi;refine ⟨G,0,some ⟨g,0,none⟩,(L[i]).2.length,c,rfl,by rw [Nat.zero_add];exact hr,TwR.rd ⟨g,c,rfl,ho⟩,λq=>by cases q⟩
open Go.RowKit Wf
theorem zB7 {lv:Value} {C:List I} (h:OwnI w B lv P) (hl:P.length=C.length) (hi:∀ i (h:i<P.length) (h':i<C.length),(P[i]).1=(C[i]).1/\OwnZ w B (P[i]).2 (C[i]).2):RdC w lv C:=by
 rcases h.2 with ⟨e,h0⟩ | ⟨G,cap,cur,e,hb,hg,r⟩
 ·subst e;refine ⟨none,0,by rw [<-hl,h0],λi hi=>?_⟩;omega
 ·subst e;refine ⟨some ⟨G,0,none⟩,cap,by rw [<-hl],λi hi2=>?_⟩;have hi3:i<P.length:=by omega
  have c:=OwnI.cell h (i:=i) hi3;obtain ⟨q1,q2⟩:=hi i hi3 hi2;have rz:=q2.rd;rcases q2.2 with ⟨e2,h2⟩ | ⟨G2,cap2,cur2,e2,_⟩
  ·rw [q1,e2] at c;rw [e2] at rz;exact ⟨G,0,none,0,0,rfl,by rw [Nat.zero_add];exact c,rz,λ_=>rfl⟩
  ·rw [q1,e2] at c;rw [e2] at rz;exact ⟨G,0,_,_,_,rfl,by rw [Nat.zero_add];exact c,rz,λh=>by cases h⟩
def Sml (x:Wc.In) (tl:List Int):Prop:=((x.op=12 \/ x.op=13 \/ x.op=14) -> -1000000<=x.a/\x.a<=1000000)/\((x.op=12 \/ x.op=15) -> -1000000<=x.b/\x.b<=1000000)/\(∀ j ∈ tl,-1000000<=j/\j<=1000000)/\tl.length<=1000
theorem zJk {W:World} {k:Nat} (hb:Below w.heap.size w W) (hk:w.heap.size<=k) (o:Nat) (v:Value):Below w.heap.size w (W.setCell ⟨k,o,none⟩ v):=zAt hb hk [v] o
theorem zFS (x:Wc.In) (tl:List Int) (p:Option Addr) (m c:Nat) (s:Int) (w:World) (hz:RdZ w (.slice p m c) tl) (hm:m=tl.length) (hS:Sml x tl) (hs:0<=s/\s<=1000000) :
  Calls prog 19 #[.agg (zAD x (.slice p m c)).toArray,.int .i64 s] w λe w'=>(∃ a' m' c',e=.returned (.agg (zAD (shf s (x,tl)).1 (.slice a' m' c')).toArray)/\OwnZ w' w.heap.size (.slice a' m' c') (shf s (x,tl)).2)/\Below w.heap.size w w':=by
 have p2:=(AtL.new0 w 48 (zAD x (.slice p m c))).alloc (.cells zeros23 48);have p4:=AtL.new1 w (.cells (zAD x (.slice p m c)).toArray 48) 48 zeros23.toList;have hB:=zAJ (zAJ (Below.refl _ w) (.cells (zAD x (.slice p m c)).toArray 48)) (.cells zeros23 48);have HZ:Hid (RdZ w (.slice p m c) tl):=hz;have HS:Hid (Sml x tl):=hS;have HSS:Hid (0<=s/\s<=1000000):=hs;have HM:Hid (m=tl.length):=hm;clear hz hS hs hm;go_enter func19,ntmps19;go_upto_region 1 with fail
 generalize ((w.alloc (.cells (zAD x (.slice p m c)).toArray 48)).alloc (.cells zeros23 48))=W at *;have HB:Hid (Below w.heap.size w W):=hB;have HP2:Hid (AtL W w.heap.size (zAD x (.slice p m c))):=p2;have HP4:Hid (AtL W (w.heap.size+1) zeros23.toList):=p4;have c0:W.cell? ⟨w.heap.size,0,none⟩=some (.int .i64 x.op):=p2.2.1 0 _ rfl;have c1:W.cell? ⟨w.heap.size,1,none⟩=some (.int .i64 x.a):=p2.2.1 1 _ rfl;have z1:W.frozen? ⟨w.heap.size,1,none⟩=false:=p2.2.2 1 (by show 1<23;decide);clear p2 p4 hB;obtain ⟨o,hxo⟩:∃ o,x.op=o:=⟨_,rfl⟩
 have HXO:Hid (x.op=o):=hxo;rw [hxo] at c0;clear hxo;obtain ⟨A',hA'⟩:∃ A',(if o=12 \/ o=13 \/ o=14 then x.a+s else x.a)=A':=⟨_,rfl⟩
 have HA':Hid ((if o=12 \/ o=13 \/ o=14 then x.a+s else x.a)=A'):=hA';clear hA';obtain ⟨qA,hqA⟩:∃ q,decide (o=12 \/ o=13 \/ o=14)=q:=⟨_,rfl⟩
 have HQA:Hid (decide (o=12 \/ o=13 \/ o=14)=qA):=hqA;go_cut [19] (λs19 wx=>s19=.bool qA/\W=wx)
 case first =>
  by_cases h12:o=12
  ·have hqt:qA=true:=by rw [<-hqA];simp [h12]
   subst h12;subst hqt;clear hqA;go_wp2;go_meet
   case rel=>exact ⟨rfl,rfl⟩
  have b12:(o == 12)=false:=by simp [h12]
  by_cases h13:o=13
  ·have hqt:qA=true:=by rw [<-hqA];simp [h13]
   subst h13;subst hqt;clear hqA;go_wp2;go_meet
   case rel=>exact ⟨rfl,rfl⟩
  have b13:(o == 13)=false:=by simp [h13]
  by_cases h14:o=14
  ·have hqt:qA=true:=by rw [<-hqA];simp [h14]
   subst h14;subst hqt;clear hqA;go_wp2;go_meet
   case rel=>exact ⟨rfl,rfl⟩
  have b14:(o == 14)=false:=by simp [h14]
  have hqt:qA=false:=by rw [<-hqA];simp [h12,h13,h14]
  subst hqt;clear hqA;go_wp2;go_meet
  case rel=>exact ⟨rfl,rfl⟩
 case rest =>
 obtain ⟨rfl,rfl⟩:=hcut;clear hqA;go_upto_if 19 with fail
 go_cut [] (λwx=>Hid (AtL wx w.heap.size (zAD {x with a:=A'} (.slice p m c)))/\Hid (AtL wx (w.heap.size+1) zeros23.toList)/\Hid (Below w.heap.size w wx))
 case first =>
  have hwa:(o=12 \/ o=13 \/ o=14)->IntKind.i64.wrap (x.a+s)=x.a+s:=λq=>by
   have h1:=HS.out.1 (by rw [HXO.out];exact q);have h2:=HSS.out;rw [IntKind.wrap_i64];omega
  cases qA with
  | true =>
   have hq:=of_decide_eq_true HQA.out;have hw:=hwa hq;have hA:=HA'.out;rw [if_pos hq] at hA;have q2:=HP2.out.set 1 (.int .i64 (x.a+s));have q4:=HP4.out.far (j:=w.heap.size) (by omega) 1 (.int .i64 (x.a+s));have qb:=zJk HB.out (Nat.le_refl _) 1 (.int .i64 (x.a+s));have HR:Hid (AtL (W.setCell ⟨w.heap.size,1,none⟩ (.int .i64 (x.a+s))) w.heap.size (zAD {x with a:=A'} (.slice p m c))/\AtL (W.setCell ⟨w.heap.size,1,none⟩ (.int .i64 (x.a+s))) (w.heap.size+1) zeros23.toList/\Below w.heap.size w (W.setCell ⟨w.heap.size,1,none⟩ (.int .i64 (x.a+s)))):=⟨by rw [<-hA];exact q2,q4,qb⟩
   clear hwa hA q2 q4 qb HP2 HP4 HB HA' HXO HS HZ HSS HM hq HQA;go_wp2;go_meet
   case rel=>exact ⟨HR.out.1,HR.out.2.1,HR.out.2.2⟩
  | false =>
   have hq:=of_decide_eq_false HQA.out;have hA:=HA'.out;rw [if_neg hq] at hA;have HR:Hid (AtL W w.heap.size (zAD {x with a:=A'} (.slice p m c))):=by rw [<-hA];exact HP2
   clear hwa hA hq;go_wp2;go_meet
   case rel=>exact ⟨HR,HP4,HB⟩
 case rest =>
 obtain ⟨HQ2,HQ4,HQB⟩:=hcut;generalize hwc:wc=W1 at *;clear hwc HP2 HP4 HB c0 c1 z1;have c0:W1.cell? ⟨w.heap.size,0,none⟩=some (.int .i64 o):=by rw [<-HXO.out];exact HQ2.out.2.1 0 _ rfl
 have c2:W1.cell? ⟨w.heap.size,2,none⟩=some (.int .i64 x.b):=HQ2.out.2.1 2 _ rfl;have z2:W1.frozen? ⟨w.heap.size,2,none⟩=false:=HQ2.out.2.2 2 (by show 2<23;decide);obtain ⟨B',hB'⟩:∃ B',(if o=12 \/ o=15 then x.b+s else x.b)=B':=⟨_,rfl⟩
 have HB':Hid ((if o=12 \/ o=15 then x.b+s else x.b)=B'):=hB';clear hB';go_upto_region 3 with fail
 obtain ⟨qB,hqB⟩:∃ q,decide (o=12 \/ o=15)=q:=⟨_,rfl⟩
 have HQB':Hid (decide (o=12 \/ o=15)=qB):=hqB;go_cut [32] (λs19 wx=>s19=.bool qB/\W1=wx)
 case first =>
  by_cases h12:o=12
  ·have hqt:qB=true:=by rw [<-hqB];simp [h12]
   subst h12;subst hqt;clear hqB;go_wp2;go_meet
   case rel=>exact ⟨rfl,rfl⟩
  have b12:(o == 12)=false:=by simp [h12]
  by_cases h15:o=15
  ·have hqt:qB=true:=by rw [<-hqB];simp [h15]
   subst h15;subst hqt;clear hqB;go_wp2;go_meet
   case rel=>exact ⟨rfl,rfl⟩
  have b15:(o == 15)=false:=by simp [h15]
  have hqt:qB=false:=by rw [<-hqB];simp [h12,h15]
  subst hqt;clear hqB;go_wp2;go_meet
  case rel=>exact ⟨rfl,rfl⟩
 case rest =>
 obtain ⟨rfl,rfl⟩:=hcut;clear hqB;go_upto_if 32 with fail
 go_cut [] (λwx=>Hid (AtL wx w.heap.size (zAD {x with a:=A',b:=B'} (.slice p m c)))/\Hid (AtL wx (w.heap.size+1) zeros23.toList)/\Hid (Below w.heap.size w wx))
 case first =>
  cases qB with
  | true =>
   have hq:=of_decide_eq_true HQB'.out;have hw:IntKind.i64.wrap (x.b+s)=x.b+s:=by
    have h1:=HS.out.2.1 (by rw [HXO.out];exact hq);have h2:=HSS.out;rw [IntKind.wrap_i64];omega
   have hA:=HB'.out;rw [if_pos hq] at hA;have q2:=HQ2.out.set 2 (.int .i64 (x.b+s));have q4:=HQ4.out.far (j:=w.heap.size) (by omega) 2 (.int .i64 (x.b+s));have qb:=zJk HQB.out (Nat.le_refl _) 2 (.int .i64 (x.b+s));have HR:Hid (AtL (W1.setCell ⟨w.heap.size,2,none⟩ (.int .i64 (x.b+s))) w.heap.size (zAD {x with a:=A',b:=B'} (.slice p m c))/\AtL (W1.setCell ⟨w.heap.size,2,none⟩ (.int .i64 (x.b+s))) (w.heap.size+1) zeros23.toList/\Below w.heap.size w (W1.setCell ⟨w.heap.size,2,none⟩ (.int .i64 (x.b+s)))):=⟨by rw [<-hA];exact q2,q4,qb⟩
   clear hA q2 q4 qb HQ2 HQ4 HQB HB' HXO HS HZ HSS HM HA' hq;go_wp2;go_meet
   case rel=>exact ⟨HR.out.1,HR.out.2.1,HR.out.2.2⟩
  | false =>
   have hq:=of_decide_eq_false HQB'.out;have hA:=HB'.out;rw [if_neg hq] at hA;have HR:Hid (AtL W1 w.heap.size (zAD {x with a:=A',b:=B'} (.slice p m c))):=by rw [<-hA];exact HQ2
   clear hA hq;go_wp2;go_meet
   case rel=>exact ⟨HR,HQ4,HQB⟩
 case rest =>
 obtain ⟨HR2,HR4,HRB⟩:=hcut;generalize hwc:wc=W2 at *;clear hwc HQ2 HQ4 HQB c0 c2 z2;have HSH:Hid ((shf s (x,tl)).1 = {x with a:=A',b:=B'} /\ (shf s (x,tl)).2=tl.map (· + s)):=by
  have h1:=HA'.out;have h2:=HB'.out;refine ⟨?_,rfl⟩;simp only [shf,HXO.out,h1,h2]
 clear HA' HB' HXO;generalize ({x with a:=A',b:=B'}:Wc.In)=y at *;have c22:W2.cell? ⟨w.heap.size,22,none⟩=some (.slice p m c):=HR2.out.2.1 22 _ rfl;go_wp2_with fail
 go_loopg [5,6] m (λgk u5 u6 wr=>∃ (i:Nat) (va:Value),va=u5/\u6=.int .i64 (i:Int)/\gk=m - i/\i<=m/\Hid (OwnZ wr W2.heap.size va ((tl.take i).map (· + s)))/\Hid (Below W2.heap.size W2 wr))
 case atStart=>exact ⟨0,_,rfl,rfl,rfl,Nat.zero_le _,OwnZ.nil _ _,Below.refl _ _⟩
 case round =>
  obtain ⟨i,va,rfl,rfl,hg,hi,HO,HBr⟩:=hrel;have d22:=zAC HBr.out c22;by_cases hlt:i<m
  ·have hli:(i:Int)<(m:Int):=by omega
   have hiz:(0:Int)<=(i:Int):=by omega
   have hlen:i<tl.length:=by rw [<-HM.out];exact hlt
   have hwi:IntKind.i64.wrap ((i:Int)+1)=(i:Int)+1:=by
    have:=HS.out.2.2.2;rw [IntKind.wrap_i64];omega
   obtain ⟨av0,cap0,e0,r0⟩:=HZ.out.below (zAB HRB.out HBr.out);obtain ⟨bb,off,rfl,q0⟩:=r0 i hlen;obtain ⟨ea,ex1,ec⟩:=Value.slice.inj e0;clear ex1 e0 r0;subst ea ec;have hsm:=HS.out.2.2.1 _ (List.getElem_mem hlen);have HTK:Hid ((tl.take (i+1)).map (· + s)=(tl.take i).map (· + s)++[tl[i]+s]):=by
    show _=_
    rw [List.take_succ_eq_append_getElem hlen,List.map_append];rfl
   have hln:True->((tl.take i).map (· + s)).length<=1000000:=λ_=>by
    rw [List.length_map,List.length_take];have:=HS.out.2.2.2;omega
   obtain ⟨v,hv⟩:∃ v,tl[i]=v:=⟨_,rfl⟩
   rw [hv] at q0 hsm HTK;have hwv:IntKind.i64.wrap (v+s)=v+s:=by
    have:=HSS.out;rw [IntKind.wrap_i64];omega
   clear hv hlen hsm;have hb3:=zAJ (Below.refl _ wr) (.cells #[.int .i64 (v+s)] 3);have HO3:Hid (OwnZ (wr.alloc (.cells #[.int .i64 (v+s)] 3)) W2.heap.size va ((tl.take i).map (· + s))):=HO.out.below hb3;have HB3:Hid (Below W2.heap.size W2 (wr.alloc (.cells #[.int .i64 (v+s)] 3))):=zAB HBr.out hb3;have hsz:=HB3.out.size;have hat:(wr.alloc (.cells #[.int .i64 (v+s)] 3)).cell? ⟨wr.heap.size,0,none⟩=some (.int .i64 (v+s)):=(AtL.new0 wr 3 [.int .i64 (v+s)]).2.1 0 _ rfl;have HFX:Hid (∀ (v':Value) (w':World),OwnZ w' W2.heap.size v' ((tl.take i).map (· + s)++[v+s])->(wr.alloc (.cells #[.int .i64 (v+s)] 3)).grownBy w' va.ownBlock->OwnZ w' W2.heap.size v' ((tl.take (i+1)).map (· + s))/\Below W2.heap.size W2 w'):=λv' w' h1 h2=>by
    rw [HTK.out];exact ⟨h1,HB3.out.grown h2 HB3.out.size (λk e=>(zAK HO3.out e).1)⟩
   clear hb3 HO HBr HTK;go_wp2_with (first | (refine zCb rfl (.tmp 45) (.tmp 53) rfl (wr.alloc (.cells #[.int .i64 (v+s)] 3)) W2.heap.size hsz va ((tl.take i).map (· + s)) rfl HO3.out wr.heap.size (v+s) rfl hat hln ?_;intro v' w' own' hg' _))
   obtain ⟨f1,f2⟩:=HFX.out v' w' own' hg';go_roundg (m - (i+1))
   case rel=>exact ⟨i+1,v',rfl,by simp,rfl,hlt,f1,f2⟩
   case measure=>omega
  ·have hli:¬ (i:Int)<(m:Int):=by omega
   have him:i=tl.length:=by rw [<-HM.out];omega
   have ho:=HO.out;rw [him,List.take_length] at ho;obtain ⟨va1,va2,va3,rfl⟩:=ho.slice;have t2:=AtL.below HBr.out HR2.out;have t4:=AtL.below HBr.out HR4.out;have hbw:=zAB HRB.out HBr.out;have z22:wr.frozen? ⟨w.heap.size,22,none⟩=false:=t2.2.2 22 (by show 22<23;decide);have u2:=t2.set 22 (.slice va1 va2 va3);have u4:=t4.far (j:=w.heap.size) (by omega) 22 (.slice va1 va2 va3);have ub:=zJk hbw (Nat.le_refl _) 22 (.slice va1 va2 va3);have uo:OwnZ (wr.setCell ⟨w.heap.size,22,none⟩ (.slice va1 va2 va3)) W2.heap.size (.slice va1 va2 va3) (tl.map (· + s)):=zAP (zBb w.heap.size [.slice va1 va2 va3] 22 wr) ho (λg e hm=>by
    have h1:=(zAK ho e).1;have h2:=HR2.out.lt;simp at hm;omega)
   have u2':AtL (wr.setCell ⟨w.heap.size,22,none⟩ (.slice va1 va2 va3)) w.heap.size (zAD y (.slice va1 va2 va3)):=u2;clear t2 t4 hbw u2 ho HO him;go_upto_region 11 with fail
   have HUO:Hid (OwnZ (wr.setCell ⟨w.heap.size,22,none⟩ (.slice va1 va2 va3)) W2.heap.size (.slice va1 va2 va3) (tl.map (· + s))):=uo;have HUB:Hid (Below w.heap.size w (wr.setCell ⟨w.heap.size,22,none⟩ (.slice va1 va2 va3))):=ub;clear uo ub z22 d22;generalize (wr.setCell ⟨w.heap.size,22,none⟩ (.slice va1 va2 va3))=W3 at *;have r2:=u2'.range;have hth:World.there W3 (w.heap.size+1) 0 (zAD y (.slice va1 va2 va3)).toArray.size:=u4.there;have pF:AtL (W3.setCells (w.heap.size+1) 0 (zAD y (.slice va1 va2 va3))) (w.heap.size+1) (zAD y (.slice va1 va2 va3)):=u4.setAll rfl;have HPF:Hid ((W3.setCells (w.heap.size+1) 0 (zAD y (.slice va1 va2 va3))).rangeAt (w.heap.size+1) 0 (zAD y (.slice va1 va2 va3))):=pF.range;have HBF:Hid (Below w.heap.size w (W3.setCells (w.heap.size+1) 0 (zAD y (.slice va1 va2 va3)))):=zAt HUB.out (Nat.le_succ _) _ 0;have HOF:Hid (OwnZ (W3.setCells (w.heap.size+1) 0 (zAD y (.slice va1 va2 va3))) w.heap.size (.slice va1 va2 va3) (tl.map (· + s))):=zA7 (zAP (zBb (w.heap.size+1) (zAD y (.slice va1 va2 va3)) 0 W3) HUO.out (λg e hm=>by
    have h1:=(zAK HUO.out e).1;have h2:=HR4.out.lt;simp at hm;omega)) (by have:=HR2.out.lt;omega)
   clear pF u4 u2';go_wp2_with (first | (refine zAA (by rfl) 48 (.tmp 2) rfl w.heap.size 0 rfl (zAD y (.slice va1 va2 va3)) _ r2 underlying48 rfl (by kernel_rfl) ?_) | ((with_reducible refine wpList_store_mid ?_ 48 (.tmp 4) (.tmp 57) ?_ (w.heap.size+1) 0 (zAD y (.slice va1 va2 va3)).toArray ?_ ?_ ?_ ?_ ?_ ?_);rfl;rfl;rfl;rfl;exact hth;kernel_rfl;exact zAg _ _ _ _))
   refine bodyPost_ret (zAh (by rfl) _ _ (w.heap.size+1) (zAD y (.slice va1 va2 va3)) _ (by rfl) HPF.out underlying48 rfl (by kernel_rfl)) rfl ⟨⟨va1,va2,va3,by rw [HSH.out.1],by rw [HSH.out.2];exact HOF.out⟩,HBF.out⟩
end Go.Proofs.YtpkdhcijcndgnaaGreatDoor
namespace Go.Proofs.YtpkdhcijcndgnaaGreatDoor.Wf
open Go.Proofs.YtpkdhcijcndgnaaGreatDoor
section
variable (o1 o2:Int)
def Hs (s t:Int):Prop:=s=t \/ (s=o1/\t=o2)
def HmA (x y:Wpl.Ar):Prop:=∃ s,y = {x with s:=s} /\ Hs o1 o2 x.s s
def HmC (x y:Wpl.Cl):Prop:=∃ s,y = {x with s:=s} /\ Hs o1 o2 x.s s
end
theorem HmA.refl (o1 o2:Int) (x:Wpl.Ar):HmA o1 o2 x x:=⟨x.s,rfl,Or.inl rfl⟩
theorem HmC.refl (o1 o2:Int) (x:Wpl.Cl):HmC o1 o2 x x:=⟨x.s,rfl,Or.inl rfl⟩
theorem zIW (o1 o2:Int) (nm:List ByteArray) (s:ByteArray):Hs o1 o2 (shN o1 nm s) (shN o2 nm s):=by
 unfold shN;split
 ·exact Or.inr ⟨rfl,rfl⟩
 ·exact Or.inl rfl
theorem zBi (o1 o2:Int) (nm:List ByteArray) (x:Wt.Nd):HmA o1 o2 (zA5 o1 nm x) (zA5 o2 nm x):=⟨_,rfl,zIW o1 o2 nm _⟩
theorem zJc (o1 o2:Int) (nm:List ByteArray) (x:Wt.Nd):HmC o1 o2 (zEK o1 nm x) (zEK o2 nm x):=⟨_,rfl,zIW o1 o2 nm _⟩
def HmI (o1 o2:Int) (x y:I):Prop:=x.2=y.2/\∃ c a p,y.1 = {x.1 with ce:=c,ar:=a,pr:=p} /\ HmC o1 o2 x.1.ce c/\HmA o1 o2 x.1.ar a/\HmA o1 o2 x.1.pr p
theorem HmI.refl (o1 o2:Int) (x:I):HmI o1 o2 x x:=⟨rfl,_,_,_,rfl,HmC.refl _ _ _,HmA.refl _ _ _,HmA.refl _ _ _⟩
def HmL (o1 o2:Int):List I->List I->Prop
 | [],[]=>True
 | x::l,y::m=>HmI o1 o2 x y/\HmL o1 o2 l m
 | _,_=>False
theorem HmL.nil {o1 o2:Int}:HmL o1 o2 [] []:=trivial
theorem HmL.cons {o1 o2:Int} {x y:I} {l m:List I} (h:HmI o1 o2 x y) (h2:HmL o1 o2 l m):HmL o1 o2 (x::l) (y::m):=⟨h,h2⟩
theorem HmL.len {o1 o2:Int}:∀ {l m:List I},HmL o1 o2 l m->l.length=m.length
 | [],[],_=>rfl
 | x::l,y::m,h=>congrArg (· + 1) (HmL.len h.2)
 | [],y::m,h=>h.elim
 | x::l,[],h=>h.elim
theorem HmL.app0 {o1 o2:Int} {l2 m2:List I} (h2:HmL o1 o2 l2 m2):∀ {l m:List I},HmL o1 o2 l m->HmL o1 o2 (l++l2) (m++m2)
 | [],[],_=>h2
 | x::l,y::m,h=>⟨h.1,HmL.app0 h2 h.2⟩
 | [],y::m,h=>h.elim
 | x::l,[],h=>h.elim
theorem HmL.app {o1 o2:Int} {l m l2 m2:List I} (h:HmL o1 o2 l m) (h2:HmL o1 o2 l2 m2):HmL o1 o2 (l++l2) (m++m2):=HmL.app0 h2 h
theorem HmL.refl (o1 o2:Int):∀ l,HmL o1 o2 l l
 | []=>HmL.nil
 | x::r=>HmL.cons (HmI.refl _ _ x) (HmL.refl o1 o2 r)
theorem HmL.one {o1 o2:Int} {x y:I} (h:HmI o1 o2 x y):HmL o1 o2 [x] [y]:=HmL.cons h HmL.nil
section
variable {α:Type} {o1 o2:Int} {nm:List ByteArray} {f g:α->Nat->List I}
theorem zBn (H:∀ k a,HmL o1 o2 (f k a) (g k a)):∀ (ks:List α) (a:Nat),HmL o1 o2 (zA0 f ks a) (zA0 g ks a)
 | [],_=>HmL.nil
 | k::r,a=>by
  simp only [zA0];rw [(H k a).len];exact (H k a).app (zBn H r _)
theorem zHH (H:∀ k a,HmL o1 o2 (f k a) (g k a)) (k:α) (a:Nat):HmL o1 o2 (zAd f k a) (zAd g k a):=(H k a).app (HmL.refl _ _ _)
theorem zOw (H:∀ k a,HmL o1 o2 (f k a) (g k a)) (h:α->Wt.Nd) (k:α) (a:Nat):HmL o1 o2 (zCE o1 nm h f k a) (zCE o2 nm h g k a):=by
 unfold zCE;split
 ·exact HmL.one ⟨rfl,_,_,_,rfl,HmC.refl _ _ _,zBi _ _ _ _,HmA.refl _ _ _⟩
 ·exact zHH H k a
theorem zLX (H:∀ k a,HmL o1 o2 (f k a) (g k a)) (h:α->Wt.Nd) (id:Int) (ks:List α) (a:Nat):HmL o1 o2 (zCB o1 nm h f id ks a) (zCB o2 nm h g id ks a):=by
 simp only [zCB];split
 ·exact HmL.refl _ _ _
 split
 ·exact HmL.refl _ _ _
 split
 ·exact (zBn H _ _).app (HmL.one ⟨rfl,_,_,_,rfl,HmC.refl _ _ _,zBi _ _ _ _,HmA.refl _ _ _⟩)
 ·refine HmL.cons (HmI.refl _ _ _) ((zBn (zHH H) _ _).app (HmL.cons ?_ (HmL.refl _ _ _)));split
  ·exact ⟨rfl,_,_,_,rfl,HmC.refl _ _ _,zBi _ _ _ _,zBi _ _ _ _⟩
  ·exact ⟨rfl,_,_,_,rfl,HmC.refl _ _ _,zBi _ _ _ _,HmA.refl _ _ _⟩
theorem zMO (H:∀ k a,HmL o1 o2 (f k a) (g k a)) (yes:α) (no:List α) (a:Nat):HmL o1 o2 (zCC f yes no a) (zCC g yes no a):=by
 simp only [zCC];rw [(H yes (a+1)).len];cases no.isEmpty with
 | true=>exact HmL.cons (HmI.refl _ _ _) ((H _ _).app (HmL.cons (HmI.refl _ _ _) (HmL.refl _ _ _)))
 | false =>
  simp only [Bool.false_eq_true,if_false];have hz:=zBn H no (a+1+(g yes (a+1)).length+1);rw [hz.len];exact HmL.cons (HmI.refl _ _ _) ((H _ _).app (HmL.cons (HmI.refl _ _ _) hz))
theorem zFu (H:∀ k a,HmL o1 o2 (f k a) (g k a)) (e:Int):∀ (r:List α) (a:Nat),HmL o1 o2 (chB f e r a) (chB g e r a)
 | [],_=>HmL.nil
 | k::r,a=>by
  simp only [chB];rw [(H k (a+1)).len];exact HmL.cons (HmI.refl _ _ _) ((H _ _).app (zFu H e r _))
theorem zHz (H:∀ k a,HmL o1 o2 (f k a) (g k a)):∀ (r:List α) (a:Nat),chT f r a=chT g r a
 | [],_=>rfl
 | k::r,a=>by
  simp only [chT];rw [(H k (a+1)).len,zHz H r]
theorem zGN (H:∀ k a,HmL o1 o2 (f k a) (g k a)) (l:List α) (a:Nat):HmL o1 o2 (zBX f l a) (zBX g l a):=by
 cases l with
 | nil=>exact HmL.refl _ _ _
 | cons k r =>
  simp only [zBX];rw [(H k (a+1)).len,(zFu H 0 r _).len,zHz H];exact HmL.cons (HmI.refl _ _ _) ((H _ _).app (zFu H _ r _))
theorem zLw (H:∀ k a,HmL o1 o2 (f k a) (g k a)) (id:Int) (ks:List α) (a:Nat):HmL o1 o2 (zBm f id ks a) (zBm g id ks a):=by
 cases ks with
 | nil=>exact HmL.nil
 | cons c r =>
  simp only [zBm];rw [(H c a).len];refine (H c a).app ?_;cases r with
  | nil =>
   simp only;split
   ·exact zGN H _ _
   ·exact HmL.nil
  | cons u no =>
   simp only;split
   ·exact zMO H _ _ _
   split
   ·rw [(H u _).len];exact HmL.cons (HmI.refl _ _ _) (H _ _)
   ·exact zGN H _ _
theorem zLT (H:∀ k a,HmL o1 o2 (f k a) (g k a)) (h:α->Wt.Nd) (x:Wt.Nd) (ks:List α) (a:Nat):HmL o1 o2 (zBs o1 nm h f x ks a) (zBs o2 nm h g x ks a):=by
 simp only [zBs];split
 ·exact (zBn H _ _).app (HmL.refl _ _ _)
 split
 ·exact HmL.cons (HmI.refl _ _ _) ((zBn (zOw H h) _ _).app (HmL.refl _ _ _))
 split
 ·exact zLX H _ _ _ _
 ·exact zLw H _ _ _
theorem zMC (H:∀ k a,HmL o1 o2 (f k a) (g k a)) (h:α->Wt.Nd) (x:Wt.Nd) (ks:List α) (a:Nat):HmL o1 o2 (zAo o1 nm h f x ks a) (zAo o2 nm h g x ks a):=by
 simp only [zAo];split
 ·exact HmL.refl _ _ _
 split
 ·exact HmL.one ⟨rfl,_,_,_,rfl,zJc _ _ _ _,HmA.refl _ _ _,HmA.refl _ _ _⟩
 split
 ·exact (zBn H _ _).app (HmL.refl _ _ _)
 split
 ·exact (zBn H _ _).app (HmL.refl _ _ _)
 split
 ·exact zLT H _ _ _ _
 ·exact HmL.nil
end
theorem zIx (o1 o2:Int) (nm:List ByteArray):∀ (n:Nat) (t:Tr n) (a:Nat),HmL o1 o2 (cod o1 nm n t a) (cod o2 nm n t a)
 | 0,t,_=>Empty.elim t
 | n+1,t,a=>zMC (zIx o1 o2 nm n) _ _ _ _
theorem zLE {o1 o2:Int} (h1:0<=o1) (h2:0<=o2) (nm:List ByteArray) (x:Wt.Nd) (ks:List Wt.Nd):zCD o1 nm x ks=zCD o2 nm x ks:=by
 have h:(shN o1 nm x.a.s<0)=(shN o2 nm x.a.s<0):=by
  unfold shN;split
  ·simp only [eq_iff_iff];omega
  ·rfl
 unfold zCD;simp only [h]
theorem zG5 {o1 o2:Int} (h1:0<=o1) (h2:0<=o2) (nm:List ByteArray):∀ (n:Nat) (t:Tr n),zB1 o1 nm n t=zB1 o2 nm n t
 | 0,t=>Empty.elim t
 | n+1,t=>by
  simp only [zB1];rw [zLE h1 h2,show zB1 o1 nm n=zB1 o2 nm n from funext (zG5 h1 h2 nm n)]
end Go.Proofs.YtpkdhcijcndgnaaGreatDoor.Wf
namespace Go.Proofs.YtpkdhcijcndgnaaGreatDoor
open Go.RowKit Wf
theorem zIO {h1 h2:Int} {nm:List ByteArray} (a1:0<=h1) (b1:h1<nm.length) (a2:0<=h2) (b2:h2<nm.length) (hl:nm.length<=16) (n:Nat) (t:Tr n):flE h1 0 0 nm n t=flE h2 9 9 nm n t:=by
 have r1:Wpl.rightC h1 0 0=true:=Wpl.rightC_iff.2 (by omega);have r2:Wpl.rightC h2 9 9=true:=Wpl.rightC_iff.2 (by omega);have e1:¬ (nm.length:Int)<=h1:=by omega
 have e2:¬ (nm.length:Int)<=h2:=by omega
 unfold flE;simp only [r1,r2,e1,e2,zG5 a1 a2,if_false,Bool.true_eq_false]
theorem zJt (h1 h2:Int) (nm:List ByteArray) (n:Nat) (t:Tr n):HmL h1 h2 (flC h1 nm n t) (flC h2 nm n t):=(zIx h1 h2 (nm.take 16) n t 0).app (HmL.refl _ _ _)
end Go.Proofs.YtpkdhcijcndgnaaGreatDoor
namespace Go.Proofs.YtpkdhcijcndgnaaGreatDoor.Wc
abbrev Hg:=Int × List Int
def zE4 (rg:In->List Int->Bool) (n:Nat):Nat->List (In × List Int)->RS->Option RS
 | _,[],S=>some S
 | i,x::r,S=>(srI rg n i x S).bind (zE4 rg n (i+1) r)
theorem zBt (rg:In->List Int->Bool) (n:Nat):∀ (l m:List (In × List Int)) (i:Nat) (S:RS),zE4 rg n i (l++m) S=(zE4 rg n i l S).bind (zE4 rg n (i+l.length) m)
 | [],m,i,S=>rfl
 | x::l,m,i,S=>by
  simp only [List.cons_append,zE4,List.length_cons];cases srI rg n i x S with
  | none=>rfl
  | some T =>
   simp only [Option.bind_some];rw [zBt rg n l m (i+1) T,show i+1+l.length=i+(l.length+1) by omega]
theorem zIl (rg:In->List Int->Bool) (n:Nat):∀ (l:List (In × List Int)) (i:Nat) (S T:RS),zE4 rg n i l S=some T->zMT (srI rg n) i l S=true
 | [],i,S,T,h=>rfl
 | x::l,i,S,T,h=>by
  simp only [zE4] at h;simp only [zMT];cases e:srI rg n i x S with
  | none=>rw [e] at h;cases h
  | some U=>rw [e] at h;exact zIl rg n l (i+1) U T h
theorem zG4 (n i:Nat) (g:Nat->Hg):∀ (p:List (Int × Hg)) (S:RS),S.length=n->(∀ x ∈ p,(i:Int)<x.1/\x.1<(n:Int))->(∀ x ∈ p,x.2=g x.1.toNat)->(∀ x ∈ p,S.getD x.1.toNat none=none \/ S.getD x.1.toNat none=some x.2) ->
  ∃ S',zBA n i p S=some S'/\S'.length=n/\(∀ x ∈ p,S'.getD x.1.toNat none=some x.2)/\∀ k,(∀ x ∈ p,x.1.toNat ≠ k)->S'.getD k none=S.getD k none:=by
 intro p;induction p with
 | nil=>intro S hl _ _ _;exact ⟨S,rfl,hl,λx hx=>(by cases hx),λ_ _=>rfl⟩
 | cons x r ih =>
  intro S hl h1 h2 h3;obtain ⟨j,h⟩:=x;have hj:=h1 _ (List.mem_cons_self ..);have hg:=h2 _ (List.mem_cons_self ..);have hs:=h3 _ (List.mem_cons_self ..);simp only at hj hg hs;have hjn:j.toNat<S.length:=by omega
  obtain ⟨S',e1,e2,e3,e4⟩:=ih (S.set j.toNat (some h)) (by simp [hl]) (λx hx=>h1 x (List.mem_cons_of_mem _ hx)) (λx hx=>h2 x (List.mem_cons_of_mem _ hx)) (λx hx=>by
   rw [getD_set S _ _ _ hjn];by_cases q:j.toNat=x.1.toNat
   ·rw [if_pos q,h2 x (List.mem_cons_of_mem _ hx),<-q,hg];exact Or.inr rfl
   ·rw [if_neg q];exact h3 x (List.mem_cons_of_mem _ hx))
  have e0:zBA n i ((j,h)::r) S=zBA n i r (S.set j.toNat (some h)):=by
   simp only [zBA];rw [if_neg (by omega)];rcases hs with hs | hs
   ·rw [hs]
   ·rw [hs];simp
  refine ⟨S',e0.trans e1,e2,λx hx=>?_,λk hk=>?_⟩
  ·rcases List.mem_cons.1 hx with rfl | hx
   ·simp only;by_cases q:∃ y ∈ r,y.1.toNat=j.toNat
    ·obtain ⟨y,hy,hq⟩:=q;have:=e3 y hy;rw [hq,h2 y (List.mem_cons_of_mem _ hy),hq,<-hg] at this;exact this
    ·rw [e4 _ (λy hy hq=>q ⟨y,hy,hq⟩),getD_set S _ _ _ hjn,if_pos rfl]
   ·exact e3 x hx
  ·rw [e4 k (λy hy=>hk y (List.mem_cons_of_mem _ hy)),getD_set S _ _ _ hjn,if_neg (hk (j,h) (List.mem_cons_self ..))]
section
variable (rg:In->List Int->Bool) (n:Nat)
structure Runs (a:Nat) (C:List (In × List Int)) (h h':Hg):Prop where
 nil:C.length=0->h=h'
 run:∀ S:RS,S.length=n->a+C.length<n->S.getD a none=some h->(∀ j,a<j->j<a+C.length->S.getD j none=none)->(0<C.length->S.getD (a+C.length) none=none \/ S.getD (a+C.length) none=some h') ->
  ∃ S',zE4 rg n a C S=some S'/\S'.length=n/\S'.getD (a+C.length) none=some h'/\∀ j,a+C.length<j->S'.getD j none=S.getD j none
end
section
variable {rg:In->List Int->Bool} {n:Nat}
theorem Runs.refl (a:Nat) (h:Hg):Runs rg n a [] h h:=⟨λ_=>rfl,λS hl _ hs _ _=>⟨S,rfl,hl,by simpa using hs,λ_ _=>rfl⟩⟩
theorem Runs.app {a:Nat} {C D:List (In × List Int)} {h h1 h2:Hg} (p:Runs rg n a C h h1) (q:Runs rg n (a+C.length) D h1 h2):Runs rg n a (C++D) h h2:=by
 refine ⟨λe=>?_,λS hl hn hs hin hend=>?_⟩
 ·rw [List.length_append] at e;exact (p.nil (by omega)).trans (q.nil (by omega))
 ·rw [List.length_append] at hn hin hend;obtain ⟨S1,e1,l1,t1,k1⟩:=p.run S hl (by omega) hs (λj h1 h2=>hin j h1 (by omega)) (λhp=>by
   rcases Nat.eq_zero_or_pos D.length with h0 | h0
   ·have:=hend (by omega);rw [q.nil h0];rw [h0] at this;exact this
   ·exact Or.inl (hin _ (by omega) (by omega)))
  obtain ⟨S2,e2,l2,t2,k2⟩:=q.run S1 l1 (by omega) t1 (λj h1 h2=>by rw [k1 j h1];exact hin j (by omega) (by omega)) (λhp=>by
   rw [k1 _ (by omega),Nat.add_assoc];exact hend (by omega))
  refine ⟨S2,?_,l2,?_,λj hj=>?_⟩
  ·rw [zBt,e1];exact e2
  ·rw [List.length_append,<-Nat.add_assoc];exact t2
  ·rw [List.length_append] at hj;rw [k2 j (by omega),k1 j (by omega)]
theorem Runs.one {a:Nat} {x:In × List Int} {v:Int} {f:List Int} {h':Hg} (hr:rg x.1 x.2=true) (ho:x.1.op ≠ 12/\x.1.op ≠ 13/\x.1.op ≠ 14/\x.1.op ≠ 15/\x.1.op ≠ 16) (hs:zBE n a x.1.op x.1.b v f=true) (e:h'=(v+(nds x.1.op x.1.b).2.2,zBr x.1.op x.1.a f)):Runs rg n a [x] (v,f) h':=by
 refine ⟨λq=>(by simp at q),λS hl hn hS hin hend=>?_⟩;simp only [List.length_cons,List.length_nil,Nat.zero_add] at hn hend;have ea:ahd x.1.op x.1.a x.1.b x.2 a v (nds x.1.op x.1.b).2.2=[((a:Int)+1,v+(nds x.1.op x.1.b).2.2)]:=by
  unfold ahd;rw [if_neg ho.2.2.2.2,if_neg ho.1,if_neg ho.2.1,if_neg ho.2.2.1,if_neg ho.2.2.2.1]
 have et:((a:Int)+1).toNat=a+1:=by omega
 obtain ⟨S',e1,e2,e3,e4⟩:=zG4 n a (λ_=>h') [((a:Int)+1,h')] S hl (λy hy=>by simp at hy;subst hy;simp only;omega) (λy hy=>by simp at hy;subst hy;rfl) (λy hy=>by
  simp at hy;subst hy;simp only [et];exact hend (by omega))
 refine ⟨S',?_,e2,?_,λj hj=>?_⟩
 ·simp only [zE4,srI];rw [if_pos hr];simp only [zE8,hS];rw [if_pos hs,ea];simp only [List.map_cons,List.map_nil];rw [<-e,e1];rfl
 ·have:=e3 _ (List.mem_cons_self ..);simp only [et] at this;exact this
 ·simp only [List.length_cons,List.length_nil,Nat.zero_add] at hj;exact e4 j (λy hy=>by simp at hy;subst hy;simp only [et];omega)
theorem zDA {a:Nat} {x:In × List Int} {v:Int} {f:List Int} (g:Nat->Hg) {p:List (Int × Hg)} {S:RS} (hl:S.length=n) (hr:rg x.1 x.2=true) (hS:S.getD a none=some (v,f)) (hs:zBE n a x.1.op x.1.b v f=true) (ep:(ahd x.1.op x.1.a x.1.b x.2 a v (nds x.1.op x.1.b).2.2).map (λp=>(p.1,(p.2,zBr x.1.op x.1.a f)))=p) (h1:∀ x ∈ p,(a:Int)<x.1/\x.1<(n:Int)) (h2:∀ x ∈ p,x.2=g x.1.toNat) (h3:∀ x ∈ p,S.getD x.1.toNat none=none \/ S.getD x.1.toNat none=some x.2) :
  ∃ S',srI rg n a x S=some S'/\S'.length=n/\(∀ x ∈ p,S'.getD x.1.toNat none=some x.2)/\∀ k,(∀ x ∈ p,x.1.toNat ≠ k)->S'.getD k none=S.getD k none:=by
 obtain ⟨S',e1,e2⟩:=zG4 n a g p S hl h1 h2 h3;refine ⟨S',?_,e2⟩;simp only [srI];rw [if_pos hr];simp only [zE8,hS];rw [if_pos hs,ep];exact e1
theorem Runs.bran {a m e:Nat} {x j:In × List Int} {Y Z:List (In × List Int)} {v:Int} {f:List Int} (hx:x.1.op=12/\x.1.a=(m:Nat)/\x.1.b=(e:Nat)) (hj:j.1.op=13/\j.1.a=(e:Nat)) (rx:rg x.1 x.2=true) (rj:rg j.1 j.2=true) (hv:0<=v) (hm:m=a+1+Y.length+1) (he:e=m+Z.length) (hY:0<Y.length) (hZ:0<Z.length)
  (p:Runs rg n (a+1) Y (v,f) (v+1,f)) (q:Runs rg n m Z (v,f) (v+1,f)):Runs rg n a (x::(Y++j::Z)) (v+1,f) (v+1,f):=by
 refine ⟨λq=>(by simp at q),λS hl hn hS hin hend=>?_⟩;have hC:(x::(Y++j::Z)).length=Y.length+Z.length+2:=by simp;omega
 rw [hC] at hn hin hend;have hae:a+(Y.length+Z.length+2)=e:=by omega
 rw [hae] at hn hin hend;have en:=nds x.1.op x.1.b;have n1:nds x.1.op x.1.b=(1,0,-1):=by rw [hx.1];rfl
 have n2:nds j.1.op j.1.b=(0,0,0):=by rw [hj.1];rfl
 have t1:((a:Int)+1).toNat=a+1:=by omega
 have t2:((m:Nat):Int).toNat=m:=by omega
 have t3:((e:Nat):Int).toNat=e:=by omega
 obtain ⟨S1,e1,l1,s1,k1⟩:=zDA (rg:=rg) (n:=n) (x:=x) (v:=v+1) (f:=f) (λk=>if k=e then (v+1,f) else (v,f)) (p:=[((a:Int)+1,(v,f)),((m:Nat),(v,f)),((e:Nat),(v+1,f))]) hl rx hS (by
   unfold zBE;rw [n1,hx.1];simp;omega) (by
   rw [n1,hx.1,hx.2.1,hx.2.2];simp [ahd,zBr];omega) (λy hy=>by
   simp only [List.mem_cons,List.not_mem_nil,or_false] at hy;rcases hy with rfl | rfl | rfl <;> simp only <;> omega) (λy hy=>by
   simp only [List.mem_cons,List.not_mem_nil,or_false] at hy;rcases hy with rfl | rfl | rfl
   ·simp only [t1];rw [if_neg (by omega)]
   ·simp only [t2];rw [if_neg (by omega)]
   ·simp only [t3,if_true]) (λy hy=>by
   simp only [List.mem_cons,List.not_mem_nil,or_false] at hy;rcases hy with rfl | rfl | rfl
   ·simp only [t1];exact Or.inl (hin _ (by omega) (by omega))
   ·simp only [t2];exact Or.inl (hin _ (by omega) (by omega))
   ·simp only [t3];exact hend (by omega))
 have s1a:=s1 ((a:Int)+1,(v,f)) (by simp);have s1m:=s1 ((m:Nat),(v,f)) (by simp);have s1e:=s1 ((e:Nat),(v+1,f)) (by simp);simp only [t1,t2,t3] at s1a s1m s1e;have k1':∀ k,k ≠ a+1->k ≠ m->k ≠ e->S1.getD k none=S.getD k none:=λk h1 h2 h3=>k1 k (λy hy=>by
  simp only [List.mem_cons,List.not_mem_nil,or_false] at hy;rcases hy with rfl | rfl | rfl <;> simp only [t1,t2,t3] <;> omega)
 obtain ⟨S2,e2,l2,s2,k2⟩:=p.run S1 l1 (by omega) s1a (λk h1 h2=>by rw [k1' k (by omega) (by omega) (by omega)];exact hin k (by omega) (by omega)) (λ_=>by rw [k1' _ (by omega) (by omega) (by omega)];exact Or.inl (hin _ (by omega) (by omega)));obtain ⟨S3,e3,l3,s3,k3⟩:=zDA (rg:=rg) (n:=n) (a:=a+1+Y.length) (x:=j) (v:=v+1) (f:=f) (λ_=>(v+1,f)) (p:=[((e:Nat),(v+1,f))]) l2 rj s2 (by
   unfold zBE;rw [n2,hj.1];simp;omega) (by
   rw [n2,hj.1,hj.2];simp [ahd,zBr]) (λy hy=>by
   simp only [List.mem_cons,List.not_mem_nil,or_false] at hy;subst hy;simp only;omega) (λy hy=>by
   simp only [List.mem_cons,List.not_mem_nil,or_false] at hy;subst hy;rfl) (λy hy=>by
   simp only [List.mem_cons,List.not_mem_nil,or_false] at hy;subst hy;simp only [t3];rw [k2 e (by omega)];exact Or.inr s1e)
 have s3e:=s3 ((e:Nat),(v+1,f)) (by simp);simp only [t3] at s3e;have k3':∀ k,k ≠ e->S3.getD k none=S2.getD k none:=λk h1=>k3 k (λy hy=>by
  simp only [List.mem_cons,List.not_mem_nil,or_false] at hy;subst hy;simp only [t3];omega)
 obtain ⟨S4,e4,l4,s4,k4⟩:=q.run S3 l3 (by omega) (by rw [k3' m (by omega),k2 m (by omega)];exact s1m) (λk h1 h2=>by rw [k3' k (by omega),k2 k (by omega),k1' k (by omega) (by omega) (by omega)];exact hin k (by omega) (by omega)) (λ_=>by rw [<-he];exact Or.inr s3e);refine ⟨S4,?_,l4,?_,λk hk=>?_⟩
 ·simp only [zE4];rw [e1];simp only [Option.bind_some];rw [zBt,e2];simp only [Option.bind_some,zE4];rw [e3];simp only [Option.bind_some];rw [show a+1+Y.length+1=m by omega];exact e4
 ·rw [hC,hae,he];exact s4
 ·rw [hC,hae] at hk;rw [k4 k (by omega),k3' k (by omega),k2 k (by omega),k1' k (by omega) (by omega) (by omega)]
theorem Runs.guard {a e:Nat} {x:In × List Int} {U:List (In × List Int)} {v:Int} {f:List Int} (hx:x.1.op=14/\x.1.a=(e:Nat)) (rx:rg x.1 x.2=true) (hv:0<=v) (he:e=a+1+U.length) (hU:0<U.length) (p:Runs rg n (a+1) U (v,f) (v+1,f)):Runs rg n a (x::U) (v+1,f) (v+1,f):=by
 refine ⟨λq=>(by simp at q),λS hl hn hS hin hend=>?_⟩;have hC:(x::U).length=U.length+1:=rfl;rw [hC] at hn hin hend;have hae:a+(U.length+1)=e:=by omega
 rw [hae] at hn hin hend;have n1:nds x.1.op x.1.b=(1,0,-1):=by rw [hx.1];rfl
 have t1:((a:Int)+1).toNat=a+1:=by omega
 have t3:((e:Nat):Int).toNat=e:=by omega
 obtain ⟨S1,e1,l1,s1,k1⟩:=zDA (rg:=rg) (n:=n) (x:=x) (v:=v+1) (f:=f) (λk=>if k=e then (v+1,f) else (v,f)) (p:=[((e:Nat),(v+1,f)),((a:Int)+1,(v,f))]) hl rx hS (by
   unfold zBE;rw [n1,hx.1];simp;omega) (by
   rw [n1,hx.1,hx.2];simp [ahd,zBr];omega) (λy hy=>by
   simp only [List.mem_cons,List.not_mem_nil,or_false] at hy;rcases hy with rfl | rfl <;> simp only <;> omega) (λy hy=>by
   simp only [List.mem_cons,List.not_mem_nil,or_false] at hy;rcases hy with rfl | rfl
   ·simp only [t3,if_true]
   ·simp only [t1];rw [if_neg (by omega)]) (λy hy=>by
   simp only [List.mem_cons,List.not_mem_nil,or_false] at hy;rcases hy with rfl | rfl
   ·simp only [t3];exact hend (by omega)
   ·simp only [t1];exact Or.inl (hin _ (by omega) (by omega)))
 have s1a:=s1 ((a:Int)+1,(v,f)) (by simp);have s1e:=s1 ((e:Nat),(v+1,f)) (by simp);simp only [t1,t3] at s1a s1e;have k1':∀ k,k ≠ a+1->k ≠ e->S1.getD k none=S.getD k none:=λk h1 h3=>k1 k (λy hy=>by
  simp only [List.mem_cons,List.not_mem_nil,or_false] at hy;rcases hy with rfl | rfl <;> simp only [t1,t3] <;> omega)
 obtain ⟨S2,e2,l2,s2,k2⟩:=p.run S1 l1 (by omega) s1a (λk h1 h2=>by rw [k1' k (by omega) (by omega)];exact hin k (by omega) (by omega)) (λ_=>by rw [<-he];exact Or.inr s1e);refine ⟨S2,?_,l2,?_,λk hk=>?_⟩
 ·simp only [zE4];rw [e1];exact e2
 ·rw [hC,hae,he];exact s2
 ·rw [hC,hae] at hk;rw [k2 k (by omega),k1' k (by omega) (by omega)]
end
end Go.Proofs.YtpkdhcijcndgnaaGreatDoor.Wc
