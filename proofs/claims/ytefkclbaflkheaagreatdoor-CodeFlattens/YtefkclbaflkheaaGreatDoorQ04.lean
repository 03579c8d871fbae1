/- Lemmas. -/
import Derived.Test.YtefkclbaflkheaaGreatDoorQ03
set_option maxHeartbeats 4000000
set_option maxRecDepth 100000
namespace Go.Proofs.YtefkclbaflkheaaGreatDoor
open Tryz
variable {w W w':World} {ka kb b mk n B:Nat} {x y:Wt.Nd} {ops:Array Oper} {rest:List Oper} {a:Act} {Q:Exit->Act->World->Prop} {M:List (Option (Int × Nat))} {v:Value} {op:Oper} {F:List (Nat × Int)} {S:List Nat}
open Go.RowKit
set_option linter.unusedVariables false
theorem zOU (r c:Int):Wpl.rightC 0 r c=Wt.inR r c:=by
 unfold Wpl.rightC Wpl.inB Wt.inR;rw [Bool.eq_iff_iff];simp
theorem zFv {b:ByteArray} (h:¬ b=⟨#[]⟩):b.toList.isEmpty=false:=by
 rw [ByteArray.toList_eq];cases hh:b.data.toList with
 | nil=>exact absurd (by obtain ⟨⟨l⟩⟩:=b;simp at hh;subst hh;rfl) h
 | cons _ _=>rfl
theorem zEe (a:Wt.Rf) (w:World) (hs:a.s.size<=9223372036854775807):CR 110 #[rfV a] w (.bool (Wt.rfOk a)):=by
 obtain ⟨s,r,c,fr,fc⟩:=a;unfold Wt.rfOk;simp only;show Calls _ _ #[.agg #[.string s,.int .i64 r,.int .i64 c,.bool fr,.bool fc]] _ _
 have C1:=λw=>zAn 0 r c w
 rw [zOU] at C1;have C2:=λw=>zLs s w hs
 generalize Wt.inR r c=q at *;cases q
 ·go_enter func110,ntmps110;go_wp2_with fail
  refine (C1 _).mono ?_;rintro e w1 ⟨rfl,hb⟩;have hB:=zAB (zAM (Below.refl _ w) _) hb;go_wp2;go_ret;exact ⟨rfl,hB⟩
 by_cases h0:s=⟨#[]⟩
 ·subst h0;go_enter func110,ntmps110;go_wp2_with fail
  refine (C1 _).mono ?_;rintro e w1 ⟨rfl,hb⟩;have hB:=zAB (zAM (Below.refl _ w) _) hb;obtain ⟨c0,c1,c2,c3,c4⟩:=(AtL.below hb (AtL.new0 w _ [.string ⟨#[]⟩,.int .i64 r,.int .i64 c,.bool fr,.bool fc])).f5;go_wp2;go_ret;exact ⟨rfl,hB⟩
 ·have hE:=zFv h0;rw [decide_eq_false h0];generalize Wt.shNm s=q at *;go_enter func110,ntmps110;go_wp2_with fail
  refine (C1 _).mono ?_;rintro e w1 ⟨rfl,hb⟩;have hB:=zAB (zAM (Below.refl _ w) _) hb;obtain ⟨c0,c1,c2,c3,c4⟩:=(AtL.below hb (AtL.new0 w _ [.string s,.int .i64 r,.int .i64 c,.bool fr,.bool fc])).f5;go_wp2_with fail
  refine (C2 _).mono ?_;rintro e w2 ⟨rfl,rfl⟩;go_wp2;go_ret;exact ⟨by simp,hB⟩
theorem zDN (v:Wt.Vl) (w:World) (h1:-9223372036854775808<=v.n) (h2:v.n<=9223372036854775807) (h3:-9223372036854775808<=v.d) (h4:v.d<=9223372036854775807) (hs:v.t.size<=9223372036854775807) :
  CR 92 #[vlV v] w (.bool (Wv.right v.k v.n v.d v.t v.b v.f)):=by
 obtain ⟨k,n,d,t,b,f⟩:=v;simp only at h1 h2 h3 h4 hs ⊢;show Calls _ _ #[.agg #[.int .i64 k,.int .i64 n,.int .i64 d,.string t,.bool b,.int .i64 f]] _ _
 by_cases e0:k=0
 ·subst e0;exact zKK n d t b f w
 by_cases e0:k=1
 ·subst e0;exact zKq n d t b f w h1 h2 h3 h4
 by_cases e0:k=2
 ·subst e0;exact zKp n d t b f w hs
 by_cases e0:k=3
 ·subst e0;exact zLT n d t b f w
 by_cases e0:k=4
 ·subst e0;exact zLZ n d t b f w
 exact zKU k n d t b f w (by omega)
theorem zMD (v:Wt.Vl) (w:World) (h1:-9223372036854775808<=v.n) (h2:v.n<=9223372036854775807) (h3:-9223372036854775808<=v.d) (h4:v.d<=9223372036854775807) (hs:v.t.size<=9223372036854775807) :
  CR 109 #[vlV v] w (.bool (Wt.vlOk v)):=by
 have C:=λw=>zDN v w h1 h2 h3 h4 hs
 obtain ⟨k,n,d,t,b,f⟩:=v;unfold Wt.vlOk;simp only [vlV,vl6] at h1 h2 h3 h4 hs C ⊢;show Calls _ _ #[.agg #[.int .i64 k,.int .i64 n,.int .i64 d,.string t,.bool b,.int .i64 f]] _ _
 by_cases e0:k=0
 ·subst e0;go_enter func109,ntmps109;go_wp2;go_ret;exact ⟨rfl,clA⟩
 rw [if_neg e0];by_cases e1:k=1
 ·subst e1;rw [if_pos rfl];have hr:Wv.right 1 n d t b f=true->1<=d:=by
   unfold Wv.right;rw [if_neg (by decide),if_pos rfl];intro h;simp only [Bool.and_eq_true] at h;have:=h.1.1.1;unfold Wnum.rightB at this;have:=of_decide_eq_true this;omega
  generalize Wv.right 1 n d t b f=q at *;cases q
  ·go_enter func109,ntmps109;go_wp2_with fail
   refine (C _).mono ?_;rintro e w1 ⟨rfl,hb⟩;have hB:=zAB (zAM (Below.refl _ w) _) hb;go_wp2;go_ret;exact ⟨rfl,hB⟩
  have hd:=hr rfl;clear hr;by_cases hn:0<=n
  ·have hd0:¬ d=0:=by omega
   have hdm:¬ d = -1:=by omega
   rw [decide_eq_true hn];go_enter func109,ntmps109;go_wp2_with fail
   refine (C _).mono ?_;rintro e w1 ⟨rfl,hb⟩;have hB:=zAB (zAM (Below.refl _ w) _) hb;obtain ⟨c0,c1,c2,c3,c4,c5⟩:=(AtL.below hb (AtL.new0 w _ [.int .i64 1,.int .i64 n,.int .i64 d,.string t,.bool b,.int .i64 f])).f6;go_wp2;go_ret;refine ⟨zA8 ?_,hB⟩;rw [Bool.eq_iff_iff];simp
  ·rw [decide_eq_false hn];go_enter func109,ntmps109;go_wp2_with fail
   refine (C _).mono ?_;rintro e w1 ⟨rfl,hb⟩;have hB:=zAB (zAM (Below.refl _ w) _) hb;obtain ⟨c0,c1,c2,c3,c4,c5⟩:=(AtL.below hb (AtL.new0 w _ [.int .i64 1,.int .i64 n,.int .i64 d,.string t,.bool b,.int .i64 f])).f6;go_wp2;go_ret;exact ⟨zA8 (by simp),hB⟩
 rw [if_neg e1];generalize Wv.right k n d t b f=q at *;have e0':(k == 0)=false:=by simp [e0]
 have e1':(k == 1)=false:=by simp [e1]
 go_enter func109,ntmps109;go_wp2_with fail
 refine (C _).mono ?_;rintro e w1 ⟨rfl,hb⟩;have hB:=zAB (zAM (Below.refl _ w) _) hb;go_wp2;go_ret;exact ⟨rfl,hB⟩
theorem zIv (o:Int) (m:ByteArray) (tt:Int) (w:World):CR 112 #[.agg #[.int .i64 o,.string m,.int .i64 tt]] w (.int .i64 (if tt<5 then 5 else 4)):=by
 by_cases h:tt<5
 ·rw [if_pos h];go_enter func112,ntmps112;go_wp2;go_ret;exact ⟨rfl,clA⟩
 ·rw [if_neg h];go_enter func112,ntmps112;go_wp2;go_ret;exact ⟨rfl,clA⟩
def opV (x:Option (Int × List UInt8 × Int)):Value:=match x with
 | some (o,m,t)=>.tuple #[.agg #[.int .i64 o,.string ⟨m.toArray⟩,.int .i64 t],.bool true]
 | none=>.tuple #[.agg #[.int .i64 0,.string ⟨#[]⟩,.int .i64 0],.bool false]
theorem zIQ:∀ (j:Nat) (h:j<Wt.opsT.length) (w:World),(Instr.index 204 (.agg opsR.toArray) (.int .i64 (j:Int))).run prog w=.ok (.agg #[.int .i64 (Wt.opsT[j]).1,.string ⟨(Wt.opsT[j]).2.1.toArray⟩,.int .i64 (Wt.opsT[j]).2.2]) w
 | 0,_,w=>by kernel_rfl
 | 1,_,w=>by kernel_rfl
 | 2,_,w=>by kernel_rfl
 | 3,_,w=>by kernel_rfl
 | 4,_,w=>by kernel_rfl
 | 5,_,w=>by kernel_rfl
 | 6,_,w=>by kernel_rfl
 | 7,_,w=>by kernel_rfl
 | 8,_,w=>by kernel_rfl
 | 9,_,w=>by kernel_rfl
 | 10,_,w=>by kernel_rfl
 | 11,_,w=>by kernel_rfl
 | 12,_,w=>by kernel_rfl
 | 13,_,w=>by kernel_rfl
 | 14,_,w=>by kernel_rfl
 | j+15,h,w=>absurd h (by show ¬ j+15<15;omega)
theorem zIT (o:Int) (w:World) (hO:OpsAt w):CR 111 #[.int .i64 o] w (opV (Wt.opOf o)):=by
 have E0:Hid (Wt.opOf o=(Wt.opsT.drop 0).find? λx=>x.1 == o):=(rfl:Wt.opOf o=_)
 obtain ⟨R,hR⟩:∃ R,Wt.opOf o=R:=⟨_,rfl⟩
 rw [hR] at E0 ⊢;clear hR;have hO2:World.rangeAt (w.alloc (.cells #[.int .i64 0,.string ⟨#[]⟩,.int .i64 0] 169)) 1 0 opsR:=hO.alloc (.cells #[.int .i64 0,.string ⟨#[]⟩,.int .i64 0] 169);go_enter func111,ntmps111;go_upto_region 1 with fail
 go_wp2_with ((with_reducible refine wpList_load_mid (cs:=opsR) ?_ 204 (.global 1) ?_ 1 0 ?_ _ hO2 underlying204 ?_ ?_ ?_);rfl;rfl;rfl;rfl;kernel_rfl)
 go_loopg [7] 15 (λgk x wr=>∃ j:Nat,x=.int .i64 j/\gk=15 - j/\j<=15/\Hid (R=(Wt.opsT.drop j).find? λx=>x.1 == o)/\Below w.heap.size w wr/\Hid (AtL wr w.heap.size [.int .i64 0,.string ⟨#[]⟩,.int .i64 0]))
 case atStart=>exact ⟨0,rfl,rfl,Nat.zero_le _,E0,zAM (Below.refl _ _) _,AtL.new0 w _ [.int .i64 0,.string ⟨#[]⟩,.int .i64 0]⟩
 case round =>
  obtain ⟨j,rfl,hg,hj,HR,hb,HA⟩:=hrel;by_cases hlt:j<15
  ·have hli:(j:Int)<15:=by omega
   have hix:=zIQ j hlt;have hd:=List.drop_eq_getElem_cons (l:=Wt.opsT) hlt;generalize Wt.opsT[j]=x at *;obtain ⟨oj,mj,tj⟩:=x;simp only at hix;rw [hd] at HR;clear hd;have P0:=AtL.alloc HA.out (.cells #[.int .i64 oj,.string ⟨mj.toArray⟩,.int .i64 tj] 169);have hb2:=zAM hb (.cells #[.int .i64 oj,.string ⟨mj.toArray⟩,.int .i64 tj] 169);obtain ⟨a0,a1,a2,f0,f1,f2⟩:=HA.out.three;have hsz:=HA.out.1;have hne:¬ w.heap.size=wr.heap.size:=by omega
   have hne2:¬ wr.heap.size=w.heap.size:=by omega
   by_cases ho:oj=o
   ·have E:Hid (R=some (oj,mj,tj)):=by show _=_;rw [HR.out,List.find?_cons_of_pos (by simp [ho])]
    clear HR;subst ho;go_wp2;refine bodyPost_ret (v:=.tuple #[.agg #[.int .i64 oj,.string ⟨mj.toArray⟩,.int .i64 tj],.bool true]) (by simp [results,results111,go_sem, *]) rfl ⟨by rw [E.out];rfl,?_⟩;exact (clB hb)
   ·have ho2:(oj == o)=false:=by simp [ho]
    have E:Hid (R=(Wt.opsT.drop (j+1)).find? λx=>x.1 == o):=by show _=_;rw [HR.out,List.find?_cons_of_neg (by simp [ho])]
    clear HR;go_wp2_with fail
    go_roundg (15 - (j+1))
    case rel=>exact ⟨j+1,by simp,rfl,hlt,E,hb2,P0⟩
    case measure=>omega
  ·have hli:¬ (j:Int)<15:=by omega
   have E:Hid (R=none):=by
    show _=_
    rw [HR.out,List.drop_eq_nil_of_le (by show 15<=j;omega)];rfl
   clear HR;obtain ⟨a0,a1,a2,f0,f1,f2⟩:=HA.out.three;go_wp2;refine bodyPost_ret (v:=.tuple #[.agg #[.int .i64 0,.string ⟨#[]⟩,.int .i64 0],.bool false]) (by simp [results,results111,go_sem, *]) rfl ⟨by rw [E.out];rfl,?_⟩;exact (clB hb)
theorem zGt (x:Wt.Nd) (w:World):CR 76 #[ndV x] w (.int .i64 (Wt.parts x)):=by
 obtain ⟨k,⟨vk,vn,vd,vt,vb,vf⟩,op,nm,ar,⟨sa,ra,ca,fra,fca⟩,⟨sb,rb,cb,frb,fcb⟩⟩:=x;unfold Wt.parts;simp only [ndV,zAG];by_cases h4:k=4
 ·subst h4;go_enter func76,ntmps76;go_wp2;go_ret;exact ⟨rfl,clA⟩
 have h4':(k == 4)=false:=by simp [h4]
 rw [if_neg h4];by_cases h5:k=5
 ·subst h5;go_enter func76,ntmps76;go_wp2;go_ret;exact ⟨rfl,clA⟩
 have h5':(k == 5)=false:=by simp [h5]
 rw [if_neg h5];go_enter func76,ntmps76;go_wp2;go_ret;exact ⟨rfl,clA⟩
def zMd (x y:Wt.Vl):Bool:=eqV x.k x.n x.d x.t x.b x.f y.k y.n y.d y.t y.b y.f
def zOO (x y:Wt.Rf):Bool:=eqR x.s x.r x.c x.fr x.fc y.s y.r y.c y.fr y.fc
def eqN (x y:Wt.Nd):Bool:=(x.k == y.k) && (zMd x.v y.v && ((x.op == y.op) && ((x.nm == y.nm) && ((x.ar == y.ar) && (zOO x.a y.a && zOO x.b y.b)))))
theorem zJw (x y:Wt.Vl):zMd x y=true ↔ x=y:=by
 obtain ⟨k,n,d,t,b,f⟩:=x;obtain ⟨k',n',d',t',b',f'⟩:=y;simp [zMd,eqV,zC3]
theorem zKD (x y:Wt.Rf):zOO x y=true ↔ x=y:=by
 obtain ⟨k,n,d,t,b⟩:=x;obtain ⟨k',n',d',t',b'⟩:=y;simp [zOO,eqR,zC3]
theorem zBe (x y:Wt.Nd):eqN x y=true ↔ x=y:=by
 obtain ⟨k,v,op,nm,ar,a,b⟩:=x;obtain ⟨k',v',op',nm',ar',a',b'⟩:=y;simp [eqN,zC3,zJw,zKD]
theorem zBC (x y:Wt.Nd) (w:World):(binOp .eql 35 (ndV x) (ndV y)).run prog w=.ok (.bool (eqN x y)) w:=by
 obtain ⟨k,⟨vk,vn,vd,vt,vb,vf⟩,op,nm,ar,⟨sa,ra,ca,fra,fca⟩,⟨sb,rb,cb,frb,fcb⟩⟩:=x;obtain ⟨k',⟨vk',vn',vd',vt',vb',vf'⟩,op',nm',ar',⟨sa',ra',ca',fra',fca'⟩,⟨sb',rb',cb',frb',fcb'⟩⟩:=y;have e1:=λw=>zLg 9996 vk vn vd vt vb vf vk' vn' vd' vt' vb' vf' w
 have e2:=λw=>zLj 9997 sa ra ca fra fca sa' ra' ca' fra' fca' w
 have e3:=λw=>zLj 9997 sb rb cb frb fcb sb' rb' cb' frb' fcb' w
 simp only [Nat.reduceAdd] at e1 e2 e3;simp only [ndV,zAG,eqN,zMd,zOO];generalize eqV vk vn vd vt vb vf vk' vn' vd' vt' vb' vf'=q1 at *;generalize eqR sa ra ca fra fca sa' ra' ca' fra' fca'=q2 at *;generalize eqR sb rb cb frb fcb sb' rb' cb' frb' fcb'=q3 at *;rw [run_eql_struct,beq_toListBytes];by_cases h1:k=k'
 ·cases q1
  ·simp [go_sem,h1,e1]
  ·by_cases h2:op=op'
   ·by_cases h3:nm.toList=nm'.toList
    ·by_cases h4:ar=ar'
     ·cases q2
      ·simp [go_sem,h1,h2,h3,h4,e1,e2]
      ·cases q3 <;> simp [go_sem,h1,h2,h3,h4,e1,e2,e3]
     ·simp [go_sem,h1,h2,h3,h4,e1]
    ·simp [go_sem,h1,h2,h3,e1]
   ·simp [go_sem,h1,h2,e1]
 ·simp [go_sem,h1]
theorem zAA {P:Program} (hw:Region.wanted op (yielded ops a.tmps)=true) (ty:TypeId) (x:Operand) (ho:op.op=.load ty x)
  (b o:Nat) (hx:a.eval x=.pointer (some ⟨b,o,none⟩)) (cs:List Value) (d:TypeDesc) (hc:w.rangeAt b o cs)
  (hu:P.underlying ty=some d) (hd:d.isRow=true) (hi:(P.info? ty).map (·.size)=some cs.length)
  (h:wpList P ops Q rest (a.put op.dst (.agg cs.toArray)) w):wpList P ops Q (op::rest) a w :=
 BigFrame.wpList_want hw λ_ hK=>wp_load_mid ty x ho b o hx cs d hc hu hd hi (hK _ _ h)
def bare (k:Int):Wt.Nd:=⟨k,Wt.v0,0,⟨#[]⟩,0,Wt.r0,Wt.r0⟩
abbrev two (w:World) (x:Wt.Nd):World:=(w.alloc (.cells (zAG x).toArray 35)).alloc (.cells #[.int .i64 0,.int .i64 0,.int .i64 0,.int .i64 0,.string ⟨#[]⟩,.bool false,.int .i64 0,.int .i64 0,.string ⟨#[]⟩,.int .i64 0,.string ⟨#[]⟩,.int .i64 0,.int .i64 0,.bool false,.bool false,.string ⟨#[]⟩,.int .i64 0,.int .i64 0,.bool false,.bool false] 35)
theorem zH9 (x:Wt.Nd):∀ v ∈ zAG x,v.oneCell'=true:=by
 intro v hv;simp only [zAG,List.mem_cons,List.not_mem_nil,or_false] at hv;rcases hv with rfl | rfl | rfl | rfl | rfl | rfl | rfl | rfl | rfl | rfl | rfl | rfl | rfl | rfl | rfl | rfl | rfl | rfl | rfl | rfl <;> rfl
theorem zC6 (x:Wt.Nd):(zAG x).toArray.all (·.oneCell')=true:=all_oneCell_toArray (zH9 x)
abbrev zNw (ka kb:Nat) (x:Wt.Nd) (W:World):Prop :=
 W.cell? ⟨ka,1,none⟩=some (.int .i64 x.v.k)/\W.cell? ⟨ka,2,none⟩=some (.int .i64 x.v.n)/\W.cell? ⟨ka,3,none⟩=some (.int .i64 x.v.d)/\W.cell? ⟨ka,4,none⟩=some (.string x.v.t)/\W.cell? ⟨ka,5,none⟩=some (.bool x.v.b)/\W.cell? ⟨ka,6,none⟩=some (.int .i64 x.v.f)/\W.frozen? ⟨kb,1,none⟩=false/\W.frozen? ⟨kb,2,none⟩=false/\W.frozen? ⟨kb,3,none⟩=false/\W.frozen? ⟨kb,4,none⟩=false/\W.frozen? ⟨kb,5,none⟩=false/\W.frozen? ⟨kb,6,none⟩=false
theorem zEu (h0:AtL W ka (zAG x)) (h1:AtL W kb (zAG y)):zNw ka kb x W :=
 ⟨h0.2.1 1 _ rfl,h0.2.1 2 _ rfl,h0.2.1 3 _ rfl,h0.2.1 4 _ rfl,h0.2.1 5 _ rfl,h0.2.1 6 _ rfl,h1.2.2 1 (by show 1<20;decide),h1.2.2 2 (by show 2<20;decide),h1.2.2 3 (by show 3<20;decide),h1.2.2 4 (by show 4<20;decide),h1.2.2 5 (by show 5<20;decide),h1.2.2 6 (by show 6<20;decide)⟩
theorem zBo (h:zNw ka kb x W) (hne:kb ≠ ka) (j:Nat) (u:Value):zNw ka kb x (W.setCell ⟨kb,j,none⟩ u):=by
 obtain ⟨h1,h2,h3,h4,h5,h6,g1,g2,g3,g4,g5,g6⟩:=h;refine ⟨?_,?_,?_,?_,?_,?_,?_,?_,?_,?_,?_,?_⟩;any_goals rw [World.cell?_setCell_far _ _ _ _ (by simpa using hne)];assumption
 all_goals rw [World.frozen?_setCell];assumption
theorem zLL (x:Wt.Nd) (w:World) (hk:x.k=1) (h1:-9223372036854775808<=x.v.n) (h2:x.v.n<=9223372036854775807) (h3:-9223372036854775808<=x.v.d) (h4:x.v.d<=9223372036854775807) (hs:x.v.t.size<=9223372036854775807) :
  CR 75 #[ndV x] w (.bool (Wt.vlOk x.v && eqN x ⟨1,x.v,0,⟨#[]⟩,0,Wt.r0,Wt.r0⟩)):=by
 have C:=(λw=>zMD x.v w h1 h2 h3 h4 hs:∀ w:World,CR 109 #[.agg #[.int .i64 x.v.k,.int .i64 x.v.n,.int .i64 x.v.d,.string x.v.t,.bool x.v.b,.int .i64 x.v.f]] w (.bool (Wt.vlOk x.v)))
 have hq:∀ w:World,(binOp .eql 35 (.agg (zAG x).toArray) (.agg (zAG ⟨1,x.v,0,⟨#[]⟩,0,Wt.r0,Wt.r0⟩).toArray)).run prog w=.ok (.bool (eqN x ⟨1,x.v,0,⟨#[]⟩,0,Wt.r0,Wt.r0⟩)) w:=λw=>zBC x ⟨1,x.v,0,⟨#[]⟩,0,Wt.r0,Wt.r0⟩ w
 generalize eqN x ⟨1,x.v,0,⟨#[]⟩,0,Wt.r0,Wt.r0⟩=R at *;generalize Wt.vlOk x.v=q at *;have pA0:AtL (two w x) w.heap.size (zAG x):=(AtL.new0 w _ _).alloc _;have pO0:AtL (two w x) (w.heap.size+1) (zAG (bare 0)):=AtL.new1 w _ _ _;have hth:World.there (two w x) (w.heap.size+1) 0 (zAG (bare 1)).toArray.size:=pO0.there;have hne:w.heap.size+1 ≠ w.heap.size:=by omega
 have pA:=pA0.farAll hne 0 (zAG (bare 1));have pO:AtL ((two w x).setCells (w.heap.size+1) 0 (zAG (bare 1))) (w.heap.size+1) (zAG (bare 1)):=pO0.setAll rfl;have hBa:Below w.heap.size w ((two w x).setCells (w.heap.size+1) 0 (zAG (bare 1))):=zAv (zAM (zAM (Below.refl _ w) _) _) (Nat.le_succ _) _ 0;clear pA0 pO0;have n0:(zAG x)[0]? = some (.int .i64 1):=by rw [<-hk];rfl
 have a0:World.cell? ((two w x).setCells (w.heap.size+1) 0 (zAG (bare 1))) ⟨w.heap.size,0,none⟩=some (.int .i64 1):=pA.2.1 0 _ n0;show Calls _ _ #[.agg (zAG x).toArray] _ _
 have hS:zNw w.heap.size (w.heap.size+1) x ((two w x).setCells (w.heap.size+1) 0 (zAG (bare 1))):=zEu pA pO;cases q
 all_goals
  go_enter func75,ntmps75;go_upto_region 1 with fail
  go_upto_region 2 with ((with_reducible refine wpList_store_mid ?_ 35 (.tmp 3) (.tmp 9) ?_ (w.heap.size+1) 0 (zAG (bare 1)).toArray ?_ ?_ ?_ ?_ ?_ ?_);rfl;rfl;rfl;rfl;exact hth;kernel_rfl;exact zC6 _)
  generalize (two w x).setCells (w.heap.size+1) 0 (zAG (bare 1))=W0 at *;clear hth;go_upto_region 4 with fail
  go_region_held3 (zNw w.heap.size (w.heap.size+1) x)
   (with_reducible first | exact hS | assumption | exact zEu pA1 pO1 | exact (zBo (zBo (zBo (zBo (zBo (zBo (by assumption) (by omega) _ _) (by omega) _ _) (by omega) _ _) (by omega) _ _) (by omega) _ _) (by omega) _ _) | exact zEu (AtL.drew pA) (AtL.drew pO))
   (first | (go_at_call 109;refine (C _).mono ?_;rintro e w1 ⟨rfl,hb⟩;have pA1:=AtL.below hb (AtL.drew pA);have pO1:=AtL.below hb (AtL.drew pO);have o1:=pO1.2.1 1 _ rfl;have o2:=pO1.2.1 2 _ rfl;have o3:=pO1.2.1 3 _ rfl;have o4:=pO1.2.1 4 _ rfl;have o5:=pO1.2.1 5 _ rfl;have o6:=pO1.2.1 6 _ rfl;have hB1:=zAB hBa.drew hb))
  all_goals
   clear pA pO hS C hBa o1 o2 o3 o4 o5 o6 a0;have pA2:AtL ((((((w1.setCell ⟨w.heap.size+1,1,none⟩ (.int .i64 x.v.k)).setCell ⟨w.heap.size+1,2,none⟩ (.int .i64 x.v.n)).setCell ⟨w.heap.size+1,3,none⟩ (.int .i64 x.v.d)).setCell ⟨w.heap.size+1,4,none⟩ (.string x.v.t)).setCell ⟨w.heap.size+1,5,none⟩ (.bool x.v.b)).setCell ⟨w.heap.size+1,6,none⟩ (.int .i64 x.v.f)) w.heap.size (zAG x):=((((((pA1.far hne 1 (.int .i64 x.v.k)).far hne 2 (.int .i64 x.v.n)).far hne 3 (.int .i64 x.v.d)).far hne 4 (.string x.v.t)).far hne 5 (.bool x.v.b)).far hne 6 (.int .i64 x.v.f))
   have pO2:AtL ((((((w1.setCell ⟨w.heap.size+1,1,none⟩ (.int .i64 x.v.k)).setCell ⟨w.heap.size+1,2,none⟩ (.int .i64 x.v.n)).setCell ⟨w.heap.size+1,3,none⟩ (.int .i64 x.v.d)).setCell ⟨w.heap.size+1,4,none⟩ (.string x.v.t)).setCell ⟨w.heap.size+1,5,none⟩ (.bool x.v.b)).setCell ⟨w.heap.size+1,6,none⟩ (.int .i64 x.v.f)) (w.heap.size+1) (zAG ⟨1,x.v,0,⟨#[]⟩,0,Wt.r0,Wt.r0⟩):=((((((pO1.set 1 (.int .i64 x.v.k)).set 2 (.int .i64 x.v.n)).set 3 (.int .i64 x.v.d)).set 4 (.string x.v.t)).set 5 (.bool x.v.b)).set 6 (.int .i64 x.v.f))
   have hB2:Below w.heap.size w ((((((w1.setCell ⟨w.heap.size+1,1,none⟩ (.int .i64 x.v.k)).setCell ⟨w.heap.size+1,2,none⟩ (.int .i64 x.v.n)).setCell ⟨w.heap.size+1,3,none⟩ (.int .i64 x.v.d)).setCell ⟨w.heap.size+1,4,none⟩ (.string x.v.t)).setCell ⟨w.heap.size+1,5,none⟩ (.bool x.v.b)).setCell ⟨w.heap.size+1,6,none⟩ (.int .i64 x.v.f)):=(clB hB1)
   clear pA1 pO1 hB1;generalize ((((((w1.setCell ⟨w.heap.size+1,1,none⟩ (.int .i64 x.v.k)).setCell ⟨w.heap.size+1,2,none⟩ (.int .i64 x.v.n)).setCell ⟨w.heap.size+1,3,none⟩ (.int .i64 x.v.d)).setCell ⟨w.heap.size+1,4,none⟩ (.string x.v.t)).setCell ⟨w.heap.size+1,5,none⟩ (.bool x.v.b)).setCell ⟨w.heap.size+1,6,none⟩ (.int .i64 x.v.f))=W2 at *;have rA:=pA2.range;have rO:=pO2.range;clear pA2 pO2;go_wp2_with (first | ((with_reducible refine zAA ?_ 35 (.tmp 1) ?_ w.heap.size 0 ?_ (zAG x) _ ?_ underlying35 ?_ ?_ ?_);rfl;rfl;rfl;exact rA;rfl;kernel_rfl) | ((with_reducible refine zAA ?_ 35 (.tmp 3) ?_ (w.heap.size+1) 0 ?_ (zAG ⟨1,x.v,0,⟨#[]⟩,0,Wt.r0,Wt.r0⟩) _ ?_ underlying35 ?_ ?_ ?_);rfl;rfl;rfl;exact rO;rfl;kernel_rfl))
   go_wp2;go_ret;exact ⟨by simp,hB2⟩
abbrev zOX (ka kb:Nat) (x:Wt.Nd) (W:World):Prop :=
 W.cell? ⟨ka,10,none⟩=some (.string x.a.s)/\W.cell? ⟨ka,11,none⟩=some (.int .i64 x.a.r)/\W.cell? ⟨ka,12,none⟩=some (.int .i64 x.a.c)/\W.cell? ⟨ka,13,none⟩=some (.bool x.a.fr)/\W.cell? ⟨ka,14,none⟩=some (.bool x.a.fc)/\W.frozen? ⟨kb,10,none⟩=false/\W.frozen? ⟨kb,11,none⟩=false/\W.frozen? ⟨kb,12,none⟩=false/\W.frozen? ⟨kb,13,none⟩=false/\W.frozen? ⟨kb,14,none⟩=false
theorem zEt (h0:AtL W ka (zAG x)) (h1:AtL W kb (zAG y)):zOX ka kb x W :=
 ⟨h0.2.1 10 _ rfl,h0.2.1 11 _ rfl,h0.2.1 12 _ rfl,h0.2.1 13 _ rfl,h0.2.1 14 _ rfl,h1.2.2 10 (by show 10<20;decide),h1.2.2 11 (by show 11<20;decide),h1.2.2 12 (by show 12<20;decide),h1.2.2 13 (by show 13<20;decide),h1.2.2 14 (by show 14<20;decide)⟩
theorem zCH (h:zOX ka kb x W) (hne:kb ≠ ka) (j:Nat) (u:Value):zOX ka kb x (W.setCell ⟨kb,j,none⟩ u):=by
 obtain ⟨h10,h11,h12,h13,h14,g10,g11,g12,g13,g14⟩:=h;refine ⟨?_,?_,?_,?_,?_,?_,?_,?_,?_,?_⟩;any_goals rw [World.cell?_setCell_far _ _ _ _ (by simpa using hne)];assumption
 all_goals rw [World.frozen?_setCell];assumption
theorem zLW (x:Wt.Nd) (w:World) (hk:x.k=2) (hs:x.a.s.size<=9223372036854775807) :
  CR 75 #[ndV x] w (.bool (Wt.rfOk x.a && eqN x ⟨2,Wt.v0,0,⟨#[]⟩,0,x.a,Wt.r0⟩)):=by
 have C:=(λw=>zEe x.a w hs:∀ w:World,CR 110 #[.agg #[.string x.a.s,.int .i64 x.a.r,.int .i64 x.a.c,.bool x.a.fr,.bool x.a.fc]] w (.bool (Wt.rfOk x.a)))
 have hq:∀ w:World,(binOp .eql 35 (.agg (zAG x).toArray) (.agg (zAG ⟨2,Wt.v0,0,⟨#[]⟩,0,x.a,Wt.r0⟩).toArray)).run prog w=.ok (.bool (eqN x ⟨2,Wt.v0,0,⟨#[]⟩,0,x.a,Wt.r0⟩)) w:=λw=>zBC x ⟨2,Wt.v0,0,⟨#[]⟩,0,x.a,Wt.r0⟩ w
 generalize eqN x ⟨2,Wt.v0,0,⟨#[]⟩,0,x.a,Wt.r0⟩=R at *;generalize Wt.rfOk x.a=q at *;have pA0:AtL (two w x) w.heap.size (zAG x):=(AtL.new0 w _ _).alloc _;have pO0:AtL (two w x) (w.heap.size+1) (zAG (bare 0)):=AtL.new1 w _ _ _;have hth:World.there (two w x) (w.heap.size+1) 0 (zAG (bare 2)).toArray.size:=pO0.there;have hne:w.heap.size+1 ≠ w.heap.size:=by omega
 have pA:=pA0.farAll hne 0 (zAG (bare 2));have pO:AtL ((two w x).setCells (w.heap.size+1) 0 (zAG (bare 2))) (w.heap.size+1) (zAG (bare 2)):=pO0.setAll rfl;have hBa:Below w.heap.size w ((two w x).setCells (w.heap.size+1) 0 (zAG (bare 2))):=zAv (zAM (zAM (Below.refl _ w) _) _) (Nat.le_succ _) _ 0;clear pA0 pO0;have n0:(zAG x)[0]? = some (.int .i64 2):=by rw [<-hk];rfl
 have a0:World.cell? ((two w x).setCells (w.heap.size+1) 0 (zAG (bare 2))) ⟨w.heap.size,0,none⟩=some (.int .i64 2):=pA.2.1 0 _ n0;show Calls _ _ #[.agg (zAG x).toArray] _ _
 have hS:zOX w.heap.size (w.heap.size+1) x ((two w x).setCells (w.heap.size+1) 0 (zAG (bare 2))):=zEt pA pO;cases q
 all_goals
  go_enter func75,ntmps75;go_upto_region 1 with fail
  go_upto_region 2 with ((with_reducible refine wpList_store_mid ?_ 35 (.tmp 3) (.tmp 9) ?_ (w.heap.size+1) 0 (zAG (bare 2)).toArray ?_ ?_ ?_ ?_ ?_ ?_);rfl;rfl;rfl;rfl;exact hth;kernel_rfl;exact zC6 _)
  generalize (two w x).setCells (w.heap.size+1) 0 (zAG (bare 2))=W0 at *;clear hth;go_upto_region 6 with fail
  go_region_held3 (zOX w.heap.size (w.heap.size+1) x)
   (with_reducible first | exact hS | assumption | exact zEt pA1 pO1 | exact (zCH (zCH (zCH (zCH (zCH (by assumption) (by omega) _ _) (by omega) _ _) (by omega) _ _) (by omega) _ _) (by omega) _ _) | exact zEt (AtL.drew pA) (AtL.drew pO))
   (first | (go_at_call 110;refine (C _).mono ?_;rintro e w1 ⟨rfl,hb⟩;have pA1:=AtL.below hb (AtL.drew pA);have pO1:=AtL.below hb (AtL.drew pO);have o10:=pO1.2.1 10 _ rfl;have o11:=pO1.2.1 11 _ rfl;have o12:=pO1.2.1 12 _ rfl;have o13:=pO1.2.1 13 _ rfl;have o14:=pO1.2.1 14 _ rfl;have hB1:=zAB hBa.drew hb))
  all_goals
   clear pA pO hS C hBa o10 o11 o12 o13 o14 a0;have pA2:AtL (((((w1.setCell ⟨w.heap.size+1,10,none⟩ (.string x.a.s)).setCell ⟨w.heap.size+1,11,none⟩ (.int .i64 x.a.r)).setCell ⟨w.heap.size+1,12,none⟩ (.int .i64 x.a.c)).setCell ⟨w.heap.size+1,13,none⟩ (.bool x.a.fr)).setCell ⟨w.heap.size+1,14,none⟩ (.bool x.a.fc)) w.heap.size (zAG x):=(((((pA1.far hne 10 (.string x.a.s)).far hne 11 (.int .i64 x.a.r)).far hne 12 (.int .i64 x.a.c)).far hne 13 (.bool x.a.fr)).far hne 14 (.bool x.a.fc))
   have pO2:AtL (((((w1.setCell ⟨w.heap.size+1,10,none⟩ (.string x.a.s)).setCell ⟨w.heap.size+1,11,none⟩ (.int .i64 x.a.r)).setCell ⟨w.heap.size+1,12,none⟩ (.int .i64 x.a.c)).setCell ⟨w.heap.size+1,13,none⟩ (.bool x.a.fr)).setCell ⟨w.heap.size+1,14,none⟩ (.bool x.a.fc)) (w.heap.size+1) (zAG ⟨2,Wt.v0,0,⟨#[]⟩,0,x.a,Wt.r0⟩):=(((((pO1.set 10 (.string x.a.s)).set 11 (.int .i64 x.a.r)).set 12 (.int .i64 x.a.c)).set 13 (.bool x.a.fr)).set 14 (.bool x.a.fc))
   have hB2:Below w.heap.size w (((((w1.setCell ⟨w.heap.size+1,10,none⟩ (.string x.a.s)).setCell ⟨w.heap.size+1,11,none⟩ (.int .i64 x.a.r)).setCell ⟨w.heap.size+1,12,none⟩ (.int .i64 x.a.c)).setCell ⟨w.heap.size+1,13,none⟩ (.bool x.a.fr)).setCell ⟨w.heap.size+1,14,none⟩ (.bool x.a.fc)):=(clB hB1)
   clear pA1 pO1 hB1;generalize (((((w1.setCell ⟨w.heap.size+1,10,none⟩ (.string x.a.s)).setCell ⟨w.heap.size+1,11,none⟩ (.int .i64 x.a.r)).setCell ⟨w.heap.size+1,12,none⟩ (.int .i64 x.a.c)).setCell ⟨w.heap.size+1,13,none⟩ (.bool x.a.fr)).setCell ⟨w.heap.size+1,14,none⟩ (.bool x.a.fc))=W2 at *;have rA:=pA2.range;have rO:=pO2.range;clear pA2 pO2;go_wp2_with (first | ((with_reducible refine zAA ?_ 35 (.tmp 1) ?_ w.heap.size 0 ?_ (zAG x) _ ?_ underlying35 ?_ ?_ ?_);rfl;rfl;rfl;exact rA;rfl;kernel_rfl) | ((with_reducible refine zAA ?_ 35 (.tmp 3) ?_ (w.heap.size+1) 0 ?_ (zAG ⟨2,Wt.v0,0,⟨#[]⟩,0,x.a,Wt.r0⟩) _ ?_ underlying35 ?_ ?_ ?_);rfl;rfl;rfl;exact rO;rfl;kernel_rfl))
   go_wp2;go_ret;exact ⟨by simp,hB2⟩
def zPU (r:Option (Nat × List (Nat × Int))) (b mb:Nat) (lv:Value) (w:World) (e:Ending) (w':World):Prop:=match r with
 | some (k,F2)=>e=.returned (.tuple #[.int .i64 (k:Int),.bool true])/\BPost b mb lv w w' F2
 | none=>∃ z:Int,e=.returned (.tuple #[.int .i64 z,.bool false])/\Fr (b::mb::lv.ownBlock.toList) w w'
theorem zDV {m:Nat} (h:m ≠ 0):zDk F m=F.getD (m - 1) (0,0):=if_neg h
def zEK (x:Wc.In):Prop:=∀ (tv:Value) (b mb:Nat) (lv:Value) (F:List (Nat × Int)) (m:Nat) (w:World),FS w b mb lv F->m<=F.length->F.length<=1000000->Calls prog 100 #[.pointer (some ⟨b,1,none⟩),inV x tv,.int .i64 (m:Int)] w λe w'=>zPU (Wc.behF F x.op x.a m) b mb lv w e w'
theorem zO4 {x:Wc.In} (h:x.op=16):zEK x:=by
 intro tv b mb lv F m w hfs hm hlF;refine (zHh x tv b mb lv F m w hfs hm hlF h).mono ?_;rintro e w' ⟨rfl,hb⟩;by_cases h0:m=0
 ·rw [show Wc.behF F x.op x.a m=some (m,F) from by simp [Wc.behF,h,h0]];exact ⟨by simp [h0],BPost.of_below hfs hb⟩
 ·rw [show Wc.behF F x.op x.a m=none from by simp [Wc.behF,h,h0]];exact ⟨_,by simp [h0];rfl,Fr.of_below _ hb⟩
theorem zM3 {x:Wc.In} (h:x.op ≠ 6/\x.op ≠ 7/\x.op ≠ 8/\x.op ≠ 9/\x.op ≠ 10/\x.op ≠ 16):zEK x:=by
 intro tv b mb lv F m w hfs hm hlF;refine (zKg x tv b mb lv F m w hfs hm hlF h).mono ?_;rintro e w' ⟨rfl,hb⟩;obtain ⟨n1,n2,n3,n4,n5,n6⟩:=h;rw [show Wc.behF F x.op x.a m=some (m,F) from by simp [Wc.behF,n1,n2,n3,n4,n5,n6]];exact ⟨rfl,BPost.of_below hfs hb⟩
theorem zGi (x:Wc.In) (tv:Value) (b mb:Nat) (lv:Value) (F:List (Nat × Int)) (m:Nat) (w:World) (hfs:FS w b mb lv F) (hm:m<=F.length) (hlF:F.length<=1000000) :
  Calls prog 100 #[.pointer (some ⟨b,1,none⟩),inV x tv,.int .i64 (m:Int)] w λe w'=>zPU (Wc.behF F x.op x.a m) b mb lv w e w':=by
 rcases Wc.ops17 x.op with h | h | h | h | h | h | h
 ·refine (zJo x tv b mb lv F m w hfs hm hlF h).mono ?_;rintro e w' ⟨k,F2,h1,h2,h3⟩;rw [h,h1];exact ⟨h2,h3⟩
 ·refine (zKf x tv b mb lv F m w hfs hm hlF h).mono ?_;rintro e w' ⟨rfl,hb⟩;by_cases h0:m=0
  ·rw [show Wc.behF F x.op x.a m=none from by simp [Wc.behF,h,h0]];exact ⟨_,by simp [h0];rfl,Fr.of_below _ hb⟩
  ·rw [show Wc.behF F x.op x.a m=some (m,F) from by simp [Wc.behF,h,h0]];exact ⟨by simp [h0],BPost.of_below hfs hb⟩
 ·refine (zJl x tv b mb lv F m w hfs hm hlF h).mono ?_;rintro e w' ⟨rfl,hb⟩;by_cases h0:m=0
  ·rw [show Wc.behF F x.op x.a m=none from by simp [Wc.behF,h,h0]];exact ⟨_,by simp [h0];rfl,Fr.of_below _ hb⟩
  ·rw [zDV h0];cases hp:Wc.pairs (F.getD (m - 1) (0,0)).2 with
   | true =>
    rw [show Wc.behF F x.op x.a m=none from by simp only [Wc.behF,h,hp];simp];exact ⟨_,by simp;rfl,Fr.of_below _ hb⟩
   | false =>
    rw [show Wc.behF F x.op x.a m=some (m,F) from by simp only [Wc.behF,h,hp];simp [h0]];exact ⟨by simp [h0],BPost.of_below hfs hb⟩
 ·refine (zKy x tv b mb lv F m w hfs hm hlF h).mono ?_;rintro e w' ⟨rfl,hb⟩;by_cases h0:m=0
  ·rw [show Wc.behF F x.op x.a m=none from by simp [Wc.behF,h,h0]];exact ⟨_,by simp [h0];rfl,Fr.of_below _ hb⟩
  ·rw [zDV h0];cases hp:Wc.pairs (F.getD (m - 1) (0,0)).2 with
   | false =>
    rw [show Wc.behF F x.op x.a m=none from by simp only [Wc.behF,h,hp];simp];exact ⟨_,by simp;rfl,Fr.of_below _ hb⟩
   | true =>
    rw [show Wc.behF F x.op x.a m=some (m,F) from by simp only [Wc.behF,h,hp];simp [h0]];exact ⟨by simp [h0],BPost.of_below hfs hb⟩
 ·refine (zJD x tv b mb lv F m w hfs hm hlF h).mono ?_;rintro e w' ⟨rfl,hb⟩;by_cases h0:m=0
  ·rw [show Wc.behF F x.op x.a m=none from by simp [Wc.behF,h,h0]];exact ⟨_,by simp [h0];rfl,Fr.of_below _ hb⟩
  ·rw [zDV h0,show Wc.behF F x.op x.a m=some ((F.getD (m - 1) (0,0)).1,F) from by simp [Wc.behF,h,h0]];exact ⟨by simp [h0],BPost.of_below hfs hb⟩
 ·exact zO4 h tv b mb lv F m w hfs hm hlF
 ·exact zM3 h tv b mb lv F m w hfs hm hlF
theorem zNQ (x:Wc.In):zEK x:=λtv b mb lv F m w hfs hm hlF=>zGi x tv b mb lv F m w hfs hm hlF
def zFY (F:List (Nat × Int)) (x:Wc.In) (v:Int) (m:Nat):Option ((Int × Nat) × List (Nat × Int)):=match Wc.behF F x.op x.a m with
 | none=>none
 | some (m2,F2)=>if v<(Wc.swO x.op x.b).1 \/ (x.op=16/\(Wc.swO x.op x.b).1<v) then none else some ((v - (Wc.swO x.op x.b).1+(Wc.swO x.op x.b).2,m2),F2)
def zM1 (o:Int) (r:Option (Nat × List (Nat × Int))) (v o1 o2:Int):Option ((Int × Nat) × List (Nat × Int)):=match r with
 | none=>none
 | some (m2,F2)=>if v<o1 \/ (o=16/\o1<v) then none else some ((v - o1+o2,m2),F2)
def zNH (r:Option ((Int × Nat) × List (Nat × Int))) (b mb:Nat) (lv:Value) (w:World) (e:Ending) (w':World):Prop:=match r with
 | some ((v,k),F2)=>e=.returned (.tuple #[.agg #[.int .i64 v,.int .i64 (k:Int)],.bool true])/\BPost b mb lv w w' F2
 | none=>e=.returned (.tuple #[.agg #[.int .i64 0,.int .i64 0],.bool false])/\Fr (b::mb::lv.ownBlock.toList) w w'
theorem AtL.fr {k:Nat} {l:List Value} (h:AtL w k l) (hf:Fr S w w') (hn:k ∉ S):AtL w' k l :=
 ⟨Nat.lt_of_lt_of_le h.1 hf.size,λi v hv=>hf.cell (h.2.1 i v hv) hn,λi hi=>by rw [hf.frozen h.1 hn];exact h.2.2 i hi⟩
theorem BPost.set {mb:Nat} {lv:Value} {w1:World} (h:BPost b mb lv w w1 F) {k:Nat} (hk:w.heap.size<=k) (hb:b<w.heap.size) (hty:∃ c f,w1.heap[k]? = some (.cells c 130 f)) (i:Nat) (v:Value):BPost b mb lv w (w1.setCell ⟨k,i,none⟩ v) F/\∃ c f,(w1.setCell ⟨k,i,none⟩ v).heap[k]? = some (.cells c 130 f):=by
 obtain ⟨c,f,hty⟩:=hty;obtain ⟨⟨lv',h1⟩,h2,h3⟩:=h;have fr:Fr [k] w1 (w1.setCell ⟨k,i,none⟩ v):=Fr.of_grown (zAP _ _ _ _) (λj e=>by cases e;simp);have hlt:=h1.lt;refine ⟨⟨⟨lv',h1.fr fr (by simp;omega) (by simp;omega) (λg e hg=>?_)⟩,h2.new fr (λj hj=>by simp at hj;subst hj;exact Or.inr hk),λu hu=>fr.cell (h3 u hu) (by simp;omega)⟩,?_⟩
 ·simp at hg;subst hg;rcases h1.own.2 with ⟨q,_⟩ | ⟨g',cap,cur,q,_,q2,_⟩
  ·rw [q] at e;cases e
  ·rw [q] at e;have e2:g'=g:=by simpa [Value.ownBlock] using e
   subst e2;rw [hty] at q2;cases q2
 ·refine ⟨c.setIfInBounds i v,f,?_⟩;simp [World.setCell,Array.getElem?_modify,hty]
theorem zB6 (w:World) (o:Obj) (k:Nat) (h:k=w.heap.size):(w.alloc o).heap[k]? = some o:=by
 subst h;exact Array.getElem?_push_size
theorem zGg (x:Wc.In) (tv:Value) (b mb:Nat) (lv:Value) (F:List (Nat × Int)) (m:Nat) (v:Int) (w:World) (hfs:FS w b mb lv F) (hm:m<=F.length) (hlF:F.length<=1000000) (hv:0<=v/\v<=100000000) (hsw:-1000<=(Wc.swO x.op x.b).1/\(Wc.swO x.op x.b).1<=1000/\0<=(Wc.swO x.op x.b).2/\(Wc.swO x.op x.b).2<=1) (hBI:zEK x) :
  Calls prog 65 #[.pointer (some ⟨b,1,none⟩),inV x tv,.agg #[.int .i64 v,.int .i64 (m:Int)]] w λe w'=>zNH (zFY F x v m) b mb lv w e w':=by
 have pI:AtL (((w.alloc (.cells (zAD x tv).toArray 56)).alloc (.cells #[.int .i64 v,.int .i64 (m:Int)] 130)).alloc (.cells #[.int .i64 0,.int .i64 0] 130)) w.heap.size (zAD x tv):=((AtL.new0 w _ _).alloc _).alloc _;have pH:AtL (((w.alloc (.cells (zAD x tv).toArray 56)).alloc (.cells #[.int .i64 v,.int .i64 (m:Int)] 130)).alloc (.cells #[.int .i64 0,.int .i64 0] 130)) (w.heap.size+1) [.int .i64 v,.int .i64 (m:Int)]:=(AtL.new1 w _ _ _).alloc _;have pR:AtL (((w.alloc (.cells (zAD x tv).toArray 56)).alloc (.cells #[.int .i64 v,.int .i64 (m:Int)] 130)).alloc (.cells #[.int .i64 0,.int .i64 0] 130)) (w.heap.size+1+1) [.int .i64 0,.int .i64 0]:=AtL.new _ _ (by simp only [World.size_alloc]) _;have tR:((((w.alloc (.cells (zAD x tv).toArray 56)).alloc (.cells #[.int .i64 v,.int .i64 (m:Int)] 130)).alloc (.cells #[.int .i64 0,.int .i64 0] 130))).heap[w.heap.size+1+1]? = some (.cells #[.int .i64 0,.int .i64 0] 130 (0,0)):=zB6 _ _ _ (by simp only [World.size_alloc]);have hB:Below w.heap.size w ((((w.alloc (.cells (zAD x tv).toArray 56)).alloc (.cells #[.int .i64 v,.int .i64 (m:Int)] 130)).alloc (.cells #[.int .i64 0,.int .i64 0] 130))):=zAM (zAM (zAM (Below.refl _ w) _) _) _;have SW:=λw=>zG8 x tv w
 have BH:=λw1 (hb:Below w.heap.size w w1)=>hBI tv b mb lv F m w1 (hfs.below hb) hm hlF
 clear hBI;have HG:Hid (∀ k,k ∈ b::mb::lv.ownBlock.toList->k<w.heap.size):=by
  intro k hk;have h1:=zA5 hfs.hd;have h2:=hfs.lt;simp only [List.mem_cons,Option.mem_toList] at hk;rcases hk with rfl | rfl | hk
  ·exact h1
  ·omega
  ·exact (zAK hfs.own hk).2
 have HB:Hid (b<w.heap.size):=zA5 hfs.hd;obtain ⟨o1,ho1⟩:∃ o,(Wc.swO x.op x.b).1=o:=⟨_,rfl⟩
 obtain ⟨o2,ho2⟩:∃ o,(Wc.swO x.op x.b).2=o:=⟨_,rfl⟩
 obtain ⟨r,hr⟩:∃ r,Wc.behF F x.op x.a m=r:=⟨_,rfl⟩
 have hce:zFY F x v m=zM1 x.op r v o1 o2:=by rw [<-ho1,<-ho2,<-hr];rfl
 rw [hce];rw [ho1,ho2] at hsw;rw [hr] at BH;have SW2:∀ w:World,CR 99 #[inV x tv] w (.tuple #[.int .i64 o1,.int .i64 o2]):=λw=>by rw [<-ho1,<-ho2];exact SW w
 have wa:IntKind.i64.wrap (v - o1)=v - o1:=by rw [IntKind.wrap_i64];omega
 have wb:IntKind.i64.wrap (v - o1+o2)=v - o1+o2:=by rw [IntKind.wrap_i64];omega
 clear hce ho1 ho2 hr SW hfs hm hlF hv hsw;go_enter func65,ntmps65;go_upto_region 1 with fail
 generalize (((w.alloc (.cells (zAD x tv).toArray 56)).alloc (.cells #[.int .i64 v,.int .i64 (m:Int)] 130)).alloc (.cells #[.int .i64 0,.int .i64 0] 130))=W at *;have rI:=pI.range;go_wp2_with (first | (refine zAA (by rfl) 56 (.tmp 4) rfl w.heap.size 0 rfl (zAD x tv) _ rI underlying56 rfl (by kernel_rfl) ?_))
 refine (SW2 _).mono ?_;rintro e w1 ⟨rfl,hb1⟩;replace pI:=AtL.below hb1 pI
 replace pH:=AtL.below hb1 pH
 replace tR:=(hb1.block _ pR.1).trans tR
 replace pR:=AtL.below hb1 pR
 replace hB:=zAB hB hb1
 have BH1:=BH w1 hB;clear rI hb1 SW2 BH;have rI:=pI.range;have h0:=pH.2.1 0 _ rfl;have h1:=pH.2.1 1 _ rfl;go_wp2_with (first | (refine zAA (by rfl) 56 (.tmp 4) rfl w.heap.size 0 rfl (zAD x tv) _ rI underlying56 rfl (by kernel_rfl) ?_))
 refine BH1.mono ?_;intro e w2 hP;clear rI BH1;have nI:w.heap.size ∉ b::mb::lv.ownBlock.toList:=λe=>by have:=HG.out _ e;omega
 have nH:w.heap.size+1 ∉ b::mb::lv.ownBlock.toList:=λe=>by have:=HG.out _ e;omega
 have nR:w.heap.size+1+1 ∉ b::mb::lv.ownBlock.toList:=λe=>by have:=HG.out _ e;omega
 have f2:Fr (b::mb::lv.ownBlock.toList) w1 w2:=by
  cases r with
  | none =>
   obtain ⟨_,_,h⟩:=hP;exact h
  | some q =>
   obtain ⟨_,_,h,_⟩:=hP;exact h
 replace pI:=pI.fr f2 nI
 replace pH:=pH.fr f2 nH
 have t2:w2.heap[w.heap.size+1+1]? = some (.cells #[.int .i64 0,.int .i64 0] 130 (0,0)):=by rw [f2.block _ pR.1 nR];exact tR
 replace pR:=pR.fr f2 nR
 have i0:=pI.2.1 0 _ rfl;clear h0 h1 tR;have h0:=pH.2.1 0 _ rfl;have h1:=pH.2.1 1 _ rfl;have r0:=pR.2.1 0 _ rfl;have r1:=pR.2.1 1 _ rfl;have z0:=pR.2.2 0 (by decide);have z1:=pR.2.2 1 (by decide);cases r with
 | none =>
  obtain ⟨z,rfl,hf⟩:=hP;have FB:=(Fr.of_below (b::mb::lv.ownBlock.toList) hB).trans hf;have F3:Fr (b::mb::lv.ownBlock.toList) w ((w2.setCell ⟨w.heap.size+1+1,0,none⟩ (.int .i64 0)).setCell ⟨w.heap.size+1+1,1,none⟩ (.int .i64 0)):=(FB.new (Fr.of_grown (zAP _ _ _ _) (λj e=>by cases e;exact List.mem_singleton.2 rfl)) (λj hj=>by simp at hj;omega)).new (Fr.of_grown (zAP _ _ _ _) (λj e=>by cases e;exact List.mem_singleton.2 rfl)) (λj hj=>by simp at hj;omega);clear hf f2 hB;go_upto_region 4 with fail
  go_wp2;have q0:((w2.setCell ⟨w.heap.size+1+1,0,none⟩ (.int .i64 0)).setCell ⟨w.heap.size+1+1,1,none⟩ (.int .i64 0)).cell? ⟨w.heap.size+1+1,0,none⟩=some (.int .i64 0):=by rw [zAZ _ _ _ (by decide)];exact zA7 r0 _
  have q1:((w2.setCell ⟨w.heap.size+1+1,0,none⟩ (.int .i64 0)).setCell ⟨w.heap.size+1+1,1,none⟩ (.int .i64 0)).cell? ⟨w.heap.size+1+1,1,none⟩=some (.int .i64 0):=zA7 (by rw [zAZ _ _ _ (by decide)];exact r1) _;refine bodyPost_ret (v:=.tuple #[.agg #[.int .i64 0,.int .i64 0],.bool false]) (by simp [results,results65,go_sem,q0,q1]) rfl ?_;exact ⟨rfl,F3⟩
 | some q =>
  obtain ⟨k,F2⟩:=q;obtain ⟨rfl,hP⟩:=hP;have PB:=BPost.front hB hP;have P1:=PB.set (k:=w.heap.size+1+1) (by omega) HB.out ⟨_,_,t2⟩ 0 (.int .i64 (v - o1+o2));have P2:=P1.1.set (by omega) HB.out P1.2 1 (.int .i64 (k:Int));have FB:=PB.2.1;have F3:Fr (b::mb::lv.ownBlock.toList) w ((w2.setCell ⟨w.heap.size+1+1,0,none⟩ (.int .i64 0)).setCell ⟨w.heap.size+1+1,1,none⟩ (.int .i64 0)):=(FB.new (Fr.of_grown (zAP _ _ _ _) (λj e=>by cases e;exact List.mem_singleton.2 rfl)) (λj hj=>by simp at hj;omega)).new (Fr.of_grown (zAP _ _ _ _) (λj e=>by cases e;exact List.mem_singleton.2 rfl)) (λj hj=>by simp at hj;omega);have HP2:Hid (BPost b mb lv w ((w2.setCell ⟨w.heap.size+1+1,0,none⟩ (.int .i64 (v - o1+o2))).setCell ⟨w.heap.size+1+1,1,none⟩ (.int .i64 (k:Int))) F2):=P2.1;clear hP f2 hB PB P1 P2 FB t2;have NO:∀ (hc:v<o1 \/ (x.op=16/\o1<v)),zM1 x.op (some (k,F2)) v o1 o2=none:=λhc=>if_pos hc
  have YES:∀ (hc:¬ (v<o1 \/ (x.op=16/\o1<v))),zM1 x.op (some (k,F2)) v o1 o2=some ((v - o1+o2,k),F2):=λhc=>if_neg hc
  have q0:((w2.setCell ⟨w.heap.size+1+1,0,none⟩ (.int .i64 0)).setCell ⟨w.heap.size+1+1,1,none⟩ (.int .i64 0)).cell? ⟨w.heap.size+1+1,0,none⟩=some (.int .i64 0):=by rw [zAZ _ _ _ (by decide)];exact zA7 r0 _
  have q1:((w2.setCell ⟨w.heap.size+1+1,0,none⟩ (.int .i64 0)).setCell ⟨w.heap.size+1+1,1,none⟩ (.int .i64 0)).cell? ⟨w.heap.size+1+1,1,none⟩=some (.int .i64 0):=zA7 (by rw [zAZ _ _ _ (by decide)];exact r1) _;have Q0:Hid _:=q0;have Q1:Hid _:=q1;clear q0 q1;by_cases c1:v<o1
  ·go_upto_region 4 with fail
   go_wp2;refine bodyPost_ret (v:=.tuple #[.agg #[.int .i64 0,.int .i64 0],.bool false]) (by have q0:=Q0.out;have q1:=Q1.out;simp [results,results65,go_sem,q0,q1]) rfl ?_;show zNH (zM1 x.op (some (k,F2)) v o1 o2) b mb lv w _ _
   rw [NO (Or.inl c1)];exact ⟨rfl,F3⟩
  ·by_cases c2:x.op=16
   ·by_cases c3:o1<v
    ·go_upto_region 4 with fail
     go_wp2;refine bodyPost_ret (v:=.tuple #[.agg #[.int .i64 0,.int .i64 0],.bool false]) (by have q0:=Q0.out;have q1:=Q1.out;simp [results,results65,go_sem,q0,q1]) rfl ?_;show zNH (zM1 x.op (some (k,F2)) v o1 o2) b mb lv w _ _
     rw [NO (Or.inr ⟨c2,c3⟩)];exact ⟨rfl,F3⟩
    ·go_wp2;have d0:((w2.setCell ⟨w.heap.size+1+1,0,none⟩ (.int .i64 (v - o1+o2))).setCell ⟨w.heap.size+1+1,1,none⟩ (.int .i64 (k:Int))).cell? ⟨w.heap.size+1+1,0,none⟩=some (.int .i64 (v - o1+o2)):=by rw [zAZ _ _ _ (by decide)];exact zA7 r0 _
     have d1:((w2.setCell ⟨w.heap.size+1+1,0,none⟩ (.int .i64 (v - o1+o2))).setCell ⟨w.heap.size+1+1,1,none⟩ (.int .i64 (k:Int))).cell? ⟨w.heap.size+1+1,1,none⟩=some (.int .i64 (k:Int)):=zA7 (by rw [zAZ _ _ _ (by decide)];exact r1) _;refine bodyPost_ret (v:=.tuple #[.agg #[.int .i64 (v - o1+o2),.int .i64 (k:Int)],.bool true]) (by simp [results,results65,go_sem,d0,d1]) rfl ?_;show zNH (zM1 x.op (some (k,F2)) v o1 o2) b mb lv w _ _
     rw [YES (by omega)];exact ⟨rfl,HP2.out⟩
   ·go_wp2;have d0:((w2.setCell ⟨w.heap.size+1+1,0,none⟩ (.int .i64 (v - o1+o2))).setCell ⟨w.heap.size+1+1,1,none⟩ (.int .i64 (k:Int))).cell? ⟨w.heap.size+1+1,0,none⟩=some (.int .i64 (v - o1+o2)):=by rw [zAZ _ _ _ (by decide)];exact zA7 r0 _
    have d1:((w2.setCell ⟨w.heap.size+1+1,0,none⟩ (.int .i64 (v - o1+o2))).setCell ⟨w.heap.size+1+1,1,none⟩ (.int .i64 (k:Int))).cell? ⟨w.heap.size+1+1,1,none⟩=some (.int .i64 (k:Int)):=zA7 (by rw [zAZ _ _ _ (by decide)];exact r1) _;refine bodyPost_ret (v:=.tuple #[.agg #[.int .i64 (v - o1+o2),.int .i64 (k:Int)],.bool true]) (by simp [results,results65,go_sem,d0,d1]) rfl ?_;show zNH (zM1 x.op (some (k,F2)) v o1 o2) b mb lv w _ _
    rw [YES (by omega)];exact ⟨rfl,HP2.out⟩
def mkC (M:List (Option (Int × Nat))) (j:Nat):List Value:=match M.getD j none with
 | none=>[.int .i64 0,.int .i64 0,.bool false]
 | some (v,m)=>[.int .i64 v,.int .i64 (m:Int),.bool (decide (j ≠ 0))]
structure MkS (w:World) (b mk n:Nat) (M:List (Option (Int × Nat))):Prop where
 hd:w.cell? ⟨b,0,none⟩=some (.slice (some ⟨mk,0,none⟩) n n)
 at':∀ j:Nat,j<n->w.rangeAt mk (j * 3) (mkC M j)
 fz:∀ i:Nat,i<n * 3->w.frozen? ⟨mk,i,none⟩=false
 len:M.length=n
 mlt:mk<w.heap.size
theorem MkS.fr (h:MkS w b mk n M) (hf:Fr S w w') (hb:b ∉ S) (hm:mk ∉ S):MkS w' b mk n M :=
 ⟨hf.cell h.hd hb,λj hj=>hf.range (h.at' j hj) hm,λi hi=>by rw [hf.frozen h.mlt hm];exact h.fz i hi,h.len,Nat.lt_of_lt_of_le h.mlt hf.size⟩
theorem zDg (M:List (Option (Int × Nat))) (j:Nat):∃ a c d,mkC M j=[.int .i64 a,.int .i64 c,.bool d]:=by
 unfold mkC;split
 ·exact ⟨_,_,_,rfl⟩
 ·exact ⟨_,_,_,rfl⟩
theorem MkS.three (h:MkS w b mk n M) {j:Nat} (hj:j<n):(∃ a:Int,w.cell? ⟨mk,j * 3,none⟩=some (.int .i64 a))/\(∃ a:Int,w.cell? ⟨mk,j * 3+1,none⟩=some (.int .i64 a))/\∃ d,w.cell? ⟨mk,j * 3+2,none⟩=some (.bool d):=by
 obtain ⟨a,c,d,e⟩:=zDg M j;have hr:=h.at' j hj;rw [e] at hr;exact ⟨⟨a,hr 0 _ rfl⟩,⟨c,hr 1 _ rfl⟩,⟨d,hr 2 _ rfl⟩⟩
theorem MkS.set (h:MkS w b mk n M) {j:Nat} (hj:j<n) (j0:j ≠ 0) (hbm:b ≠ mk) (v:Int) (m:Nat):MkS (((w.setCell ⟨mk,j * 3,none⟩ (.int .i64 v)).setCell ⟨mk,j * 3+1,none⟩ (.int .i64 (m:Int))).setCell ⟨mk,j * 3+2,none⟩ (.bool true)) b mk n (M.set j (some (v,m))):=by
 have fr:Fr [mk] w (((w.setCell ⟨mk,j * 3,none⟩ (.int .i64 v)).setCell ⟨mk,j * 3+1,none⟩ (.int .i64 (m:Int))).setCell ⟨mk,j * 3+2,none⟩ (.bool true)) :=
  ((Fr.of_grown (zAP _ _ _ _) (λk e=>by cases e;simp)).trans (Fr.of_grown (zAP _ _ _ _) (λk e=>by cases e;simp))).trans (Fr.of_grown (zAP _ _ _ _) (λk e=>by cases e;simp))
 obtain ⟨⟨y0,e0⟩,⟨y1,e1⟩,⟨y2,e2⟩⟩:=h.three hj;refine ⟨fr.cell h.hd (by simpa using hbm),λi hi=>?_,λi hi=>by rw [World.frozen?_setCell,World.frozen?_setCell,World.frozen?_setCell];exact h.fz i hi,by rw [List.length_set];exact h.len,Nat.lt_of_lt_of_le h.mlt fr.size⟩;by_cases e:i=j
 ·subst e;have hc:mkC (M.set i (some (v,m))) i=[.int .i64 v,.int .i64 (m:Int),.bool true]:=by
   unfold mkC;rw [Wc.getD_set M i i _ (by rw [h.len];exact hj),if_pos rfl];simp [j0]
  rw [hc];intro q u hq;match q,hq with
  | 0,hq =>
   cases hq
   rw [zAZ _ _ _ (by omega),zAZ _ _ _ (by omega)];exact zA7 e0 _
  | 1,hq =>
   cases hq
   rw [zAZ _ _ _ (by omega)];exact zA7 (by rw [zAZ _ _ _ (by omega)];exact e1) _
  | 2,hq =>
   cases hq
   exact zA7 (by rw [zAZ _ _ _ (by omega),zAZ _ _ _ (by omega)];exact e2) _
 ·have hc:mkC (M.set j (some (v,m))) i=mkC M i:=by
   unfold mkC;rw [Wc.getD_set M j i _ (by rw [h.len];exact hj),if_neg (λq=>e q.symm)]
  rw [hc];obtain ⟨a,c,d,ee⟩:=zDg M i;have hr:=h.at' i hi;rw [ee] at hr ⊢;intro q u hq;have hq3:q<3:=by
   rcases Nat.lt_or_ge q 3 with g | g
   ·exact g
   ·rw [List.getElem?_eq_none (by simpa using g)] at hq;cases hq
  have:=hr q u hq;rw [zAZ _ _ _ (by omega),zAZ _ _ _ (by omega),zAZ _ _ _ (by omega)];exact this
theorem zDc {i1 i2 i3:Nat} {v1 v2 v3:Value}:Fr [mk] w (((w.setCell ⟨mk,i1,none⟩ v1).setCell ⟨mk,i2,none⟩ v2).setCell ⟨mk,i3,none⟩ v3) :=
 ((Fr.of_grown (zAP _ _ _ _) (λk e=>by cases e;simp)).trans (Fr.of_grown (zAP _ _ _ _) (λk e=>by cases e;simp))).trans (Fr.of_grown (zAP _ _ _ _) (λk e=>by cases e;simp))
theorem zLI (x y x' y':Int) (w:World):(binOp .neq 130 (.agg #[.int .i64 x,.int .i64 y]) (.agg #[.int .i64 x',.int .i64 y'])).run prog w=.ok (.bool (!((x == x') && (y == y')))) w:=by
 by_cases h1:x=x'
 ·by_cases h2:y=y'
  ·simp [go_sem,h1,h2]
  ·simp [go_sem,h1,h2]
 ·simp [go_sem,h1]
def zOl (r:Option (List (Option (Int × Nat)))) (b mk n:Nat) (w:World) (e:Ending) (w':World):Prop:=match r with
 | some M2=>e=.returned (.bool true)/\MkS w' b mk n M2/\Fr [mk] w w'
 | none=>e=.returned (.bool false)/\Fr [mk] w w'
theorem zC7 (b mk n:Nat) (M:List (Option (Int × Nat))) (v:Int) (m:Nat) (pl:List Int) (pv:Value) (w:World) (hM:MkS w b mk n M) (hbm:b ≠ mk) (hp:RdZ w pv pl) (hpl:∀ j ∈ pl,0<j/\j<(n:Int)) (hl:pl.length<=1000000) (hn:n<=1000000) (hpb:pl ≠ []->∀ g,pv.ownBlock=some g->g ≠ mk) :
  Calls prog 66 #[.pointer (some ⟨b,0,none⟩),.agg #[.int .i64 v,.int .i64 (m:Int)],pv] w λe w'=>zOl (Wc.handP (v,m) pl M) b mk n w e w':=by
 obtain ⟨a1,c1,rfl,r1⟩:=hp;have HR:Hid (RdZ w (.slice a1 pl.length c1) pl):=⟨a1,c1,rfl,r1⟩
 have HPB:Hid (pl ≠ []->∀ g,(Value.slice a1 pl.length c1).ownBlock=some g->g ≠ mk):=hpb;have HPL:Hid (∀ j ∈ pl,0<j/\j<(n:Int)):=hpl;obtain ⟨k,hk⟩:∃ k,pl.length=k:=⟨_,rfl⟩
 have HK:Hid (pl.length=k):=hk;rw [hk] at hl ⊢;obtain ⟨q,hq⟩:∃ q,Wc.handP (v,m) pl M=q:=⟨_,rfl⟩
 have HQ:Hid (Wc.handP (v,m) (pl.drop 0) M=q):=hq;rw [hq];have pH:=AtL.new0 w 130 [.int .i64 v,.int .i64 (m:Int)];have hb0:=zAM (Below.refl _ w) (.cells #[.int .i64 v,.int .i64 (m:Int)] 130);have hM0:=hM.fr (Fr.of_below [] hb0) (by simp) (by simp);have hF0:=Fr.of_below [mk] hb0;have h0:=pH.2.1 0 _ rfl;have h1:=pH.2.1 1 _ rfl;have nb:b ∉ [mk]:=by simpa using hbm
 have nw:w.heap.size ∉ [mk]:=by have:=hM.mlt;simp;omega
 clear r1 hpl hk hq pH hM hpb;go_enter func66,ntmps66;go_upto_region 1 with fail
 generalize (w.alloc (.cells #[.int .i64 v,.int .i64 (m:Int)] 130))=w0 at *;have HB0:Hid (Below w.heap.size w w0):=hb0;clear hb0;go_wp2_with fail
 go_loopg [11] k (λgk x wr=>∃ (i:Nat) (Mi:List (Option (Int × Nat))),x=.int .i64 i/\gk=k - i/\i<=k/\Hid (Wc.handP (v,m) (pl.drop i) Mi=q)/\Hid (MkS wr b mk n Mi)/\Hid (Fr [mk] w wr)/\wr.cell? ⟨w.heap.size,0,none⟩=some (.int .i64 v)/\wr.cell? ⟨w.heap.size,1,none⟩=some (.int .i64 (m:Int)))
 case atStart=>exact ⟨0,M,rfl,rfl,Nat.zero_le _,HQ,hM0,hF0,h0,h1⟩
 case round =>
  clear h0 h1 hM0 hF0 HQ;obtain ⟨i,Mi,rfl,hg,hi,HQ,HMi,HFi,h0,h1⟩:=hrel;by_cases hlt:i<k
  ·have hli:(i:Int)<(k:Int):=by omega
   have hwi:IntKind.i64.wrap ((i:Int)+1)=(i:Int)+1:=by rw [IntKind.wrap_i64];omega
   have hil:i<pl.length:=by rw [HK.out];exact hlt
   have hM:=HMi.out;have hF:=HFi.out;have H0:=HR.out;rw [HK.out] at H0;obtain ⟨q1,d1,e1,f1⟩:=H0;simp only [Value.slice.injEq] at e1;obtain ⟨ex1,ex2,ex3⟩:=e1;subst ex1;subst ex3;clear ex2;obtain ⟨bb,off,rfl,t1⟩:=f1 i hil;have hlb:=zA5 t1;have t2:wr.cell? ⟨bb,off+i,none⟩=some (.int .i64 (pl[i])):=hF.cell t1 (by have:=HPB.out (by intro e;rw [e] at hil;simp at hil) bb rfl;simpa using this);obtain ⟨hj1,hj2⟩:=HPL.out pl[i] (List.getElem_mem _);obtain ⟨j,hj⟩:∃ j:Nat,pl[i]=(j:Int):=⟨pl[i].toNat,by omega⟩
   have HQ1:Hid (Wc.handP (v,m) ((j:Int)::pl.drop (i+1)) Mi=q):=by
    show _=q
    rw [<-HQ.out,List.drop_eq_getElem_cons hil,hj]
   rw [hj] at t2 hj1 hj2;have hjn:j<n:=by omega
   have hj0:j ≠ 0:=by omega
   have hjz:(0:Int)<=(j:Int):=by omega
   have hr:=hM.at' j hjn;have c0:=hM.hd;clear f1 t1 hil hj hj1 HMi HFi HQ;cases hgj:Mi.getD j none with
   | none =>
    have HQ2:Hid (Wc.handP (v,m) (pl.drop (i+1)) (Mi.set j (some (v,m)))=q):=by
     show _=q
     rw [<-HQ1.out];simp only [Wc.handP,Int.toNat_natCast,hgj]
    have e2:wr.cell? ⟨mk,j * 3+2,none⟩=some (.bool false):=by
     have:=hr 2 (.bool false) (by unfold mkC;rw [hgj];rfl);exact this
    clear hr;go_upto_region 4 with fail
    go_quiet (fail)
    go_upto_region 6 with fail
    have hbd:Below wr.heap.size wr (wr.drewN nq).drew:=(zB5 (Below.refl _ wr) nq).drew;replace hM:=hM.fr (Fr.of_below [] hbd) (by simp) (by simp)
    replace hF:=hF.trans (Fr.of_below [mk] hbd)
    replace h0:=zAC hbd h0
    replace h1:=zAC hbd h1
    clear hbd;have c0:=hM.hd;refine wp_region_held_drew (S:=λW=>W.cell? ⟨b,0,none⟩=some (.slice (some ⟨mk,0,none⟩) n n)/\W.cell? ⟨w.heap.size,0,none⟩=some (.int .i64 v)/\W.cell? ⟨w.heap.size,1,none⟩=some (.int .i64 (m:Int))) (by kernel_rfl) ⟨c0,h0,h1⟩ (λhHeld=>?_);generalize (wr.drewN nq).drew=wd at *;refine tkQ 0 ?_
    refine tkQ 1 ?_
    refine tkQ 2 ?_
    refine tkQ 3 ?_
    refine tkQ 4 ?_
    refine tkQ 5 ?_
    refine tkQ 6 ?_
    refine tkQ 7 ?_
    have fq:=hM.fz;have f0:=fq (j * 3) (by omega);have f1:=fq (j * 3+1) (by omega);have f2:=fq (j * 3+2) (by omega);obtain ⟨⟨y0,e0⟩,⟨y1,e1⟩,⟨y2,e2⟩⟩:=hM.three hjn;have hMS:=hM.set hjn hj0 hbm v m;have fr3:Fr [mk] wd (((wd.setCell ⟨mk,j * 3,none⟩ (.int .i64 v)).setCell ⟨mk,j * 3+1,none⟩ (.int .i64 (m:Int))).setCell ⟨mk,j * 3+2,none⟩ (.bool true)):=zDc;have k0:=fr3.cell c0 nb;have k1:=fr3.cell h0 nw;have k2:=fr3.cell h1 nw;clear fq;refine rdQ 8 (λK hK=>?_);go_simp
    refine hkQ hK (⟨k0,k1,k2⟩) (λhHeld=>?_);clear hK K
    refine wpAnyH_done (by kernel_rfl) ?_ _;clear hHeld f0 f1 f2 e0 e1 e2 c0 h0 h1 hM;have HMS:Hid (MkS (((wd.setCell ⟨mk,j * 3,none⟩ (.int .i64 v)).setCell ⟨mk,j * 3+1,none⟩ (.int .i64 (m:Int))).setCell ⟨mk,j * 3+2,none⟩ (.bool true)) b mk n (Mi.set j (some (v,m)))):=hMS;have HF3:Hid (Fr [mk] w (((wd.setCell ⟨mk,j * 3,none⟩ (.int .i64 v)).setCell ⟨mk,j * 3+1,none⟩ (.int .i64 (m:Int))).setCell ⟨mk,j * 3+2,none⟩ (.bool true))):=hF.trans fr3;have H1:Hid _:=k1;have H2:Hid _:=k2;clear hMS hF fr3 k0 k1 k2;generalize (((wd.setCell ⟨mk,j * 3,none⟩ (.int .i64 v)).setCell ⟨mk,j * 3+1,none⟩ (.int .i64 (m:Int))).setCell ⟨mk,j * 3+2,none⟩ (.bool true))=w9 at *;go_wp2_with fail
    go_roundg (k - (i+1))
    case rel=>exact ⟨i+1,Mi.set j (some (v,m)),by simp,rfl,hlt,HQ2,HMS,HF3,H1.out,H2.out⟩
    case measure=>omega
   | some gg =>
    obtain ⟨gv,gm⟩:=gg;have a0:wr.cell? ⟨mk,j * 3,none⟩=some (.int .i64 gv):=hr 0 (.int .i64 gv) (by unfold mkC;rw [hgj];rfl);have a1:wr.cell? ⟨mk,j * 3+1,none⟩=some (.int .i64 (gm:Int)):=hr 1 (.int .i64 (gm:Int)) (by unfold mkC;rw [hgj];rfl);have e2:wr.cell? ⟨mk,j * 3+2,none⟩=some (.bool true):=hr 2 (.bool true) (by unfold mkC;rw [hgj];simp [hj0]);have NH:=λw=>zLI gv (gm:Int) v (m:Int) w
    clear hr;by_cases hgh:(gv,gm)=(v,m)
    ·have HQ2:Hid (Wc.handP (v,m) (pl.drop (i+1)) (Mi.set j (some (v,m)))=q):=by
      show _=q
      rw [<-HQ1.out];simp only [Wc.handP,Int.toNat_natCast,hgj,if_pos hgh]
     have hx:(!((gv == v) && ((gm:Int) == (m:Int))))=false:=by
      obtain ⟨h2,h3⟩:=Prod.mk.inj hgh;rw [h2,h3];simp
     rw [hx] at NH;clear hx hgh;go_upto_region 4 with fail
     go_quiet (fail)
     go_upto_region 6 with fail
     have hbd:Below wr.heap.size wr (wr.drewN nq).drew:=(zB5 (Below.refl _ wr) nq).drew;replace hM:=hM.fr (Fr.of_below [] hbd) (by simp) (by simp)
     replace hF:=hF.trans (Fr.of_below [mk] hbd)
     replace h0:=zAC hbd h0
     replace h1:=zAC hbd h1
     clear hbd;have c0:=hM.hd;refine wp_region_held_drew (S:=λW=>W.cell? ⟨b,0,none⟩=some (.slice (some ⟨mk,0,none⟩) n n)/\W.cell? ⟨w.heap.size,0,none⟩=some (.int .i64 v)/\W.cell? ⟨w.heap.size,1,none⟩=some (.int .i64 (m:Int))) (by kernel_rfl) ⟨c0,h0,h1⟩ (λhHeld=>?_);generalize (wr.drewN nq).drew=wd at *;refine tkQ 0 ?_
     refine tkQ 1 ?_
     refine tkQ 2 ?_
     refine tkQ 3 ?_
     refine tkQ 4 ?_
     refine tkQ 5 ?_
     refine tkQ 6 ?_
     refine tkQ 7 ?_
     have fq:=hM.fz;have f0:=fq (j * 3) (by omega);have f1:=fq (j * 3+1) (by omega);have f2:=fq (j * 3+2) (by omega);obtain ⟨⟨y0,e0⟩,⟨y1,e1⟩,⟨y2,e2⟩⟩:=hM.three hjn;have hMS:=hM.set hjn hj0 hbm v m;have fr3:Fr [mk] wd (((wd.setCell ⟨mk,j * 3,none⟩ (.int .i64 v)).setCell ⟨mk,j * 3+1,none⟩ (.int .i64 (m:Int))).setCell ⟨mk,j * 3+2,none⟩ (.bool true)):=zDc;have k0:=fr3.cell c0 nb;have k1:=fr3.cell h0 nw;have k2:=fr3.cell h1 nw;clear fq;refine rdQ 8 (λK hK=>?_);go_simp
     refine hkQ hK (⟨k0,k1,k2⟩) (λhHeld=>?_);clear hK K
     refine wpAnyH_done (by kernel_rfl) ?_ _;clear hHeld f0 f1 f2 e0 e1 e2 c0 h0 h1 hM;have HMS:Hid (MkS (((wd.setCell ⟨mk,j * 3,none⟩ (.int .i64 v)).setCell ⟨mk,j * 3+1,none⟩ (.int .i64 (m:Int))).setCell ⟨mk,j * 3+2,none⟩ (.bool true)) b mk n (Mi.set j (some (v,m)))):=hMS;have HF3:Hid (Fr [mk] w (((wd.setCell ⟨mk,j * 3,none⟩ (.int .i64 v)).setCell ⟨mk,j * 3+1,none⟩ (.int .i64 (m:Int))).setCell ⟨mk,j * 3+2,none⟩ (.bool true))):=hF.trans fr3;have H1:Hid _:=k1;have H2:Hid _:=k2;clear hMS hF fr3 k0 k1 k2;generalize (((wd.setCell ⟨mk,j * 3,none⟩ (.int .i64 v)).setCell ⟨mk,j * 3+1,none⟩ (.int .i64 (m:Int))).setCell ⟨mk,j * 3+2,none⟩ (.bool true))=w9 at *;go_wp2_with fail
     go_roundg (k - (i+1))
     case rel=>exact ⟨i+1,Mi.set j (some (v,m)),by simp,rfl,hlt,HQ2,HMS,HF3,H1.out,H2.out⟩
     case measure=>omega
    ·have HQ2:Hid (none=q):=by
      show _=q
      rw [<-HQ1.out];simp only [Wc.handP,Int.toNat_natCast,hgj,if_neg hgh]
     have hx:(!((gv == v) && ((gm:Int) == (m:Int))))=true:=by
      rw [Bool.not_eq_true',Bool.and_eq_false_iff];by_cases h2:gv=v
      ·right
       have h3:gm ≠ m:=λe=>hgh (by rw [h2,e])
       simp;omega
      ·left
       simpa using h2
     rw [hx] at NH;clear hx hgh;go_upto_region 4 with fail
     go_quiet (fail)
     go_wp2;go_ret;show zOl q b mk n w _ _
     rw [<-HQ2.out];exact ⟨rfl,hF.trans (Fr.of_below _ (zB5 (Below.refl wr.heap.size wr) nq))⟩
  ·have hli:¬ (i:Int)<(k:Int):=by omega
   have hqe:some Mi=q:=by
    rw [<-HQ.out,List.drop_eq_nil_of_le (by rw [HK.out];omega)];rfl
   go_wp2;go_ret;show zOl q b mk n w _ _
   rw [<-hqe];exact ⟨rfl,HMi.out,HFi.out⟩
structure Sg where
 id:Int
 c:Int
 nm:ByteArray
 l:Int
 m:Int
 p:ByteArray
abbrev Sg.cs (s:Sg):List Value:=sg6 s.id s.c s.nm s.l s.m s.p
def zAs:List Sg->List Value
 | []=>[]
 | x::r=>x.cs++zAs r
theorem zE3:∀ A:List Sg,(zAs A).length=A.length * 6
 | []=>rfl
 | x::r=>by simp [zAs,zE3 r];omega
theorem zDn:∀ (A C:List Sg),zAs (A++C)=zAs A++zAs C
 | [],C=>rfl
 | x::r,C=>by simp [zAs,zDn r C]
theorem zEG:∀ (A:List Sg),∀ v ∈ zAs A,v.oneCell'=true
 | [],v,h=>by cases h
 | x::r,v,h=>by
  simp only [zAs,Sg.cs,sg6,List.mem_append,List.mem_cons,List.not_mem_nil,or_false] at h;rcases h with (rfl | rfl | rfl | rfl | rfl | rfl) | h
  ·rfl
  ·rfl
  ·rfl
  ·rfl
  ·rfl
  ·rfl
  ·exact zEG r v h
def foN:List ByteArray:=[⟨#[83,85,77]⟩,⟨#[80,82,79,68,85,67,84]⟩,⟨#[67,79,85,78,84]⟩,⟨#[67,79,85,78,84,65]⟩,⟨#[77,73,78]⟩,⟨#[77,65,88]⟩,⟨#[65,86,69,82,65,71,69]⟩,⟨#[65,78,68]⟩,⟨#[79,82]⟩,⟨#[88,79,82]⟩,⟨#[67,79,78,67,65,84]⟩,⟨#[83,85,77,83,81]⟩,⟨#[71,67,68]⟩,⟨#[70,73,82,83,84]⟩,⟨#[76,65,83,84]⟩]
def nmN:List ByteArray:=[⟨#[65,66,83]⟩,⟨#[83,73,71,78]⟩,⟨#[73,78,84]⟩,⟨#[82,79,85,78,68]⟩,⟨#[77,79,68]⟩,⟨#[81,85,79,84,73,69,78,84]⟩,⟨#[80,79,87,69,82]⟩,⟨#[78,79,84]⟩,⟨#[76,69,78]⟩,⟨#[76,69,70,84]⟩,⟨#[82,73,71,72,84]⟩,⟨#[77,73,68]⟩,⟨#[82,69,80,84]⟩,⟨#[70,73,78,68]⟩,⟨#[85,80,80,69,82]⟩,⟨#[76,79,87,69,82]⟩,⟨#[84,82,73,77]⟩,⟨#[86,65,76,85,69]⟩,⟨#[73,83,78,85,77,66,69,82]⟩,⟨#[73,83,84,69,88,84]⟩,⟨#[73,83,66,76,65,78,75]⟩,⟨#[73,83,69,82,82,79,82]⟩,⟨#[78,65]⟩]
def leN:List Int:=[1,1,1,1,2,2,2,1,1,1,1,3,2,2,1,1,1,1,1,1,1,1,0]
def f1 (i:Nat):Sg:=⟨(i:Int)+1,1,foN.getD i ⟨#[]⟩,1,30,⟨#[120]⟩⟩
def rnd (s:ByteArray):Bool:=(s.toList == [82,79,85,78,68]) || ((s.toList == [76,69,70,84]) || (s.toList == [82,73,71,72,84]))
def f3 (i:Nat):Sg:=⟨40+(i:Int),4,nmN.getD i ⟨#[]⟩,leN.getD i 0,if rnd (nmN.getD i ⟨#[]⟩)=true then 2 else leN.getD i 0,⟨#[118]⟩⟩
def zBJ:List Sg:=[⟨20,2,⟨#[77,65,84,67,72]⟩,2,2,⟨#[118,97]⟩⟩,⟨21,2,⟨#[67,79,85,78,84,73,70]⟩,2,2,⟨#[97,118]⟩⟩,⟨22,2,⟨#[83,85,77,73,70]⟩,2,3,⟨#[97,118,97]⟩⟩,⟨23,2,⟨#[76,79,79,75,85,80]⟩,3,3,⟨#[118,97,97]⟩⟩,⟨24,2,⟨#[83,85,77,80,82,79,68,85,67,84]⟩,2,2,⟨#[97]⟩⟩,⟨25,2,⟨#[73,78,68,69,88]⟩,2,3,⟨#[97,118]⟩⟩,⟨26,2,⟨#[82,79,87,83]⟩,1,1,⟨#[97]⟩⟩,⟨27,2,⟨#[67,79,76,85,77,78,83]⟩,1,1,⟨#[97]⟩⟩,⟨30,3,⟨#[73,70]⟩,2,3,⟨#[118]⟩⟩,⟨31,3,⟨#[73,70,69,82,82,79,82]⟩,2,2,⟨#[118]⟩⟩,⟨32,3,⟨#[67,72,79,79,83,69]⟩,2,30,⟨#[118]⟩⟩]
def allS:List Sg:=(List.range 15).map f1++zBJ++(List.range 23).map f3
def OwnS (w:World) (B:Nat) (v:Value) (A:List Sg):Prop:=w.ownsRow B 108 6 v A.length (zAs A)
theorem OwnS.nil (w:World) (B:Nat):OwnS w B (.slice none 0 0) []:=⟨rfl,Or.inl ⟨rfl,rfl⟩⟩
theorem zN8:(prog.info? 108).map (λi=>(i.zero,i.size,i.bytes))=some (some (.agg #[.int .i64 0,.int .i64 0,.string ⟨#[]⟩,.int .i64 0,.int .i64 0,.string ⟨#[]⟩]),6,64):=by kernel_rfl
theorem zCB {ops:Array Oper} {rest:List Oper} {o:Oper} {a:Act} {Q:Exit->Act->World->Prop} (hgd:o.guard=none) (s x:Operand) (ho:o.op=.call {callee:=.builtin .append,args:=#[s,x],argTypes:=#[151,151]})
  (w:World) (B:Nat) (hB:B<=w.heap.size) (v:Value) (A:List Sg) (hs:a.eval s=v) (hown:OwnS w B v A) (g:Nat) (L:List Sg) (hx:a.eval x=.slice (some ⟨g,0,none⟩) L.length L.length) (hat:AtL w g (zAs L)) (hl:A.length+L.length<=1000)
  (h:∀ v' w',OwnS w' B v' (A++L)->w.grownBy w' v.ownBlock->wpList prog ops Q rest (a.put o.dst v') w'):wpList prog ops Q (o::rest) a w:=by
 obtain ⟨i0,hi0,hz0,hz1,hz2⟩:=info_parts zN8;refine wpList_plain hgd λK hK=>?_
 refine wp_append_own _ s x 151 ho B 108 i0 _ 6 64 underlying151 hi0 hz0 hz1 hz2 rfl (by decide) v A.length (zAs A) hs hown ⟨g,0,none⟩ L.length L.length (zAs L) hx (zE3 L) (λj u hj=>?_) (zEG L) (by unfold maxLen;omega) (by omega) hB ?_
 ·have:=hat.2.1 j u hj;rw [show (⟨g,0,none⟩:Addr).add j=⟨g,j,none⟩ from by
   simp [Addr.add];try (intro h0;omega)]
  exact this
 ·intro v' w' own hg _;refine hK _ _ (h v' w' ?_ hg);unfold OwnS;rw [List.length_append,zDn];exact own
theorem zPd (w:World):(Instr.buildSlice 151 11 #[(0,.agg (zBJ[0]).cs.toArray),(1,.agg (zBJ[1]).cs.toArray),(2,.agg (zBJ[2]).cs.toArray),(3,.agg (zBJ[3]).cs.toArray),(4,.agg (zBJ[4]).cs.toArray),(5,.agg (zBJ[5]).cs.toArray),(6,.agg (zBJ[6]).cs.toArray),(7,.agg (zBJ[7]).cs.toArray),(8,.agg (zBJ[8]).cs.toArray),(9,.agg (zBJ[9]).cs.toArray),(10,.agg (zBJ[10]).cs.toArray)]).run prog w=.ok (.slice (some ⟨w.heap.size,0,none⟩) 11 11) (w.alloc (.cells (zAs zBJ).toArray 108)):=by kernel_rfl
theorem zFQ (hgd:op.guard=none) (ho:op.op=.buildSlice 151 11 #[(0,.tmp 26),(1,.tmp 27),(2,.tmp 28),(3,.tmp 29),(4,.tmp 30),(5,.tmp 31),(6,.tmp 32),(7,.tmp 33),(8,.tmp 34),(9,.tmp 35),(10,.tmp 36)]) (h0:a.eval (.tmp 26)=.agg (zBJ[0]).cs.toArray) (h1:a.eval (.tmp 27)=.agg (zBJ[1]).cs.toArray) (h2:a.eval (.tmp 28)=.agg (zBJ[2]).cs.toArray) (h3:a.eval (.tmp 29)=.agg (zBJ[3]).cs.toArray) (h4:a.eval (.tmp 30)=.agg (zBJ[4]).cs.toArray) (h5:a.eval (.tmp 31)=.agg (zBJ[5]).cs.toArray) (h6:a.eval (.tmp 32)=.agg (zBJ[6]).cs.toArray) (h7:a.eval (.tmp 33)=.agg (zBJ[7]).cs.toArray) (h8:a.eval (.tmp 34)=.agg (zBJ[8]).cs.toArray) (h9:a.eval (.tmp 35)=.agg (zBJ[9]).cs.toArray) (h10:a.eval (.tmp 36)=.agg (zBJ[10]).cs.toArray)
  (h:wpList prog ops Q rest (a.put op.dst (.slice (some ⟨w.heap.size,0,none⟩) 11 11)) (w.alloc (.cells (zAs zBJ).toArray 108))):wpList prog ops Q (op::rest) a w:=by
 refine wpList_plain hgd λK hK=>?_
 unfold Oper.wp execOp;simp only [ho,List.map_toArray,List.map_cons,List.map_nil,h0,h1,h2,h3,h4,h5,h6,h7,h8,h9,h10,Sem.run_bind,Sem.run_pure,Result.andThen_ok,zPd];exact hK _ _ h
theorem OwnS.blk {A:List Sg} (h:OwnS w B v A) {g:Nat} (e:v.ownBlock=some g):B<=g/\g<w.heap.size:=zAK h e
theorem OwnS.below {A:List Sg} (h:OwnS w B v A) (hb:Below w.heap.size w w'):OwnS w' B v A:=zAW (Fr.of_below [] hb) h (by simp)
theorem zDa:allS.length=49:=by kernel_rfl
theorem zL5:allS.all (λs=>zAb s.id && ((zAJ s.id).c == s.c && ((zAJ s.id).l == s.l && (zAJ s.id).m == s.m)))=true:=by kernel_rfl
theorem zL4:(List.range 63).all (λk=>!zAb (k:Int) || allS.any (λs=>s.id == (k:Int)))=true:=by kernel_rfl
theorem zBP {s:Sg} (h:s ∈ allS):zAb s.id=true/\(zAJ s.id).c=s.c/\(zAJ s.id).l=s.l/\(zAJ s.id).m=s.m:=by
 have:=List.all_eq_true.1 zL5 s h;simp only [Bool.and_eq_true,beq_iff_eq] at this;exact this
theorem zLw {id:Int} (h:zAb id=true):∃ s ∈ allS,s.id=id:=by
 have hk:=h;unfold zAb at hk;simp only [Bool.and_eq_true,decide_eq_true_eq] at hk;have h2:=List.all_eq_true.1 zL4 id.toNat (List.mem_range.2 (by omega));have e:((id.toNat:Nat):Int)=id:=by omega
 rw [e,h] at h2;simp only [Bool.not_true,Bool.false_or] at h2;obtain ⟨s,hs,he⟩:=List.any_eq_true.1 h2;exact ⟨s,hs,by simpa using he⟩
theorem zDi:∀ (A:List Sg) (i j:Nat) (h:i<A.length),j<6->(zAs A)[i * 6+j]? = (A[i]).cs[j]?
 | x::r,0,j,_,hj=>by
  show (x.cs++zAs r)[0 * 6+j]? = _
  rw [List.getElem?_append_left (by simp;omega)];simp
 | x::r,i+1,j,h,hj=>by
  have ih:=zDi r i j (by simpa using h) hj;show (x.cs++zAs r)[(i+1) * 6+j]? = _
  rw [List.getElem?_append_right (by simp;omega)];have e:(i+1) * 6+j - x.cs.length=i * 6+j:=by simp;omega
  rw [e,ih];rfl
theorem OwnS.cell {G cap:Nat} {A:List Sg} (h:OwnS w B (.slice (some ⟨G,0,none⟩) n cap) A) {i:Nat} (hi:i<A.length) {j:Nat} {v:Value} (hv:(A[i]).cs[j]? = some v):w.cell? ⟨G,i * 6+j,none⟩=some v:=by
 have hj:j<6:=by
  rcases Nat.lt_or_ge j 6 with q | q
  ·exact q
  ·rw [List.getElem?_eq_none (by simpa using q)] at hv;cases hv
 have hc:=h.cells (g:=G) rfl (i * 6+j) v (by rw [zDi A i j hi hj];exact hv);rwa [show (⟨G,0,none⟩:Addr).add (i * 6+j)=⟨G,i * 6+j,none⟩ from by
  simp [Addr.add];try (intro h0;omega)] at hc
theorem OwnS.shape {A:List Sg} (h:OwnS w B v A) (hne:A.length=49):∃ G cap,v=.slice (some ⟨G,0,none⟩) 49 cap/\B<=G:=by
 rcases h.2 with ⟨_,h0⟩ | ⟨g,cap,cur,e,hb,_⟩
 ·omega
 ·exact ⟨g,cap,by rw [e,hne],hb⟩
